import PyProof.Rows.All
import Wide.All
import OpenK.AllK
import Wide.FinOn
import HandS.ForMost
import HandS.Walk
import KE.GoesEnum
import KE.GoesNew
import KE.GoesMore
import KE.DataMinMax
import HandS.Iter
import HandS.List
import HandS.OwnEq
import HandS.SlotsOwn
import PyProof.InstNe
import OpenK.KMake
import HandS.Replace
import HandS.ReplaceLit
import HandS.Comp
import PyProof.ToksMono
import HandS.Exc
import HandS.ExcInit
import HandS.ExcIs
import HandS.IsInst
import HandS.DictComp
import HandS.MakeKw
import KE.KExcIs
import PyProof.ReprReads
import PyProof.ReprRoads
import HandS.ExcValue
import HandS.Lambda
import HandS.TryMany
import HandS.ExcField
import HandS.ExcOwn
import HandS.WordsExc
import HandS.Style
import HandS.EndTab
import KE.KNest
import HandS.Dict
import HandS.RaiseMore
import KE.KDictPairs
import KE.KDictZip
import PyProof.EnumMake
import HandS.Conv
import HandS.Defaults
import HandS.Wide
import HandS.TupAny
import PySem.Challenge.RW_leastjoined_k21_joinings_judged
set_option Elab.async false
set_option linter.all false
set_option maxRecDepth 100000
set_option maxHeartbeats 4000000
/-! enumerate of a list or a tuple; max of a tuple -/
namespace PySem
open Sem (wp)
theorem enum_new1 {v : Value} {o : Obj} {J : Heap → Prop} (B : Begins v o J) :
    Meets (Builtin.«enumerate.__new__» ⟨[.type "enumerate", v], []⟩) (fun _ R s => J s.heap ∧
      R (.ok (.ret (.ref (s.heap.push o).objs.size))) { s with heap := (s.heap.push o).push { cls := .type "enumerate", data := .fields #[.none, .bool false, .ref s.heap.objs.size, rawInt 0, .none, .none] } }) :=
  .of_wp fun prog w A R st hst => by
    obtain ⟨hp, gs, dr, tk, os⟩ := st
    obtain ⟨j0, hst⟩ := hst
    have sub0 := sub_enumerate
    have begin0 : ∀ {A' : Around} {E : Value → Shared → Prop} {Q : Value → Shared → Prop}, Q (.ref hp.objs.size) ⟨hp.push o, gs, dr, tk, os⟩ → wpAny (model prog w) A' (pyIter v) Q E ⟨hp, gs, dr, tk, os⟩ :=
      fun q => B.iter prog w _ _ ⟨hp, gs, dr, tk, os⟩ _ j0 q
    wp_walk
    refine wpAny_stack_any fun below => wpAny_pure ?_
    split
    · rename_i cls _ _ _ _ _
      cases (cls == Value.type "enumerate")
      · wp_walk using begin0
        exact ⟨_, rfl, hst⟩
      · wp_walk using begin0
        exact ⟨_, rfl, hst⟩
    · wp_walk using begin0
      exact ⟨_, rfl, hst⟩
section
variable {prog : Program} {w : World} {A : Around} {E : Value → Shared → Prop} {s : Shared}
theorem enum_call1 {v : Value} {o : Obj} {J : Heap → Prop} {Q : Value → Shared → Prop} (B : Begins v o J) (j0 : J s.heap)
    (h : ∀ h', IsEnum h' (s.heap.objs.size + 1) s.heap.objs.size 0 .none → h'.get? s.heap.objs.size = some o → h'.objs.size = s.heap.objs.size + 2 →
      (∀ b u, s.heap.get? b = some u → h'.get? b = some u) → Q (.ref (s.heap.objs.size + 1)) { s with heap := h' }) :
    wpAny (model prog w) A (call (.type "enumerate") [v]) Q E s := by
  refine callType_new F.called_enumerate (by decide) (F.typeCall_enumerate_1 _) (F.newCall_enumerate_1 _) (fun obj => F.args_object_init_2 obj _) F.entry_enumerate_new (enum_new1 B) ⟨j0, ?_⟩
  have z1 : (s.heap.push o).objs.size = s.heap.objs.size + 1 := Heap.size_push ..
  show _ ∧ _
  rw [z1]
  have he : IsEnum ((s.heap.push o).push { cls := .type "enumerate", data := .fields #[.none, .bool false, .ref s.heap.objs.size, rawInt 0, .none, .none] }) (s.heap.objs.size + 1) s.heap.objs.size 0 .none := by
    have q := Heap.get?_push_size (s.heap.push o) (o := { cls := .type "enumerate", data := .fields #[.none, .bool false, .ref s.heap.objs.size, rawInt 0, .none, .none] }) rfl
    rw [z1] at q
    exact q
  exact ⟨⟨_, he, rfl⟩, h _ he (Heap.get?_push_of_some _ (Heap.get?_push_size _ B.free)) (by rw [Heap.size_push, z1]) fun b u x => Heap.get?_push_of_some _ (Heap.get?_push_of_some _ x)⟩
end
end PySem

set_option Elab.async false
set_option linter.all false
set_option maxRecDepth 100000
set_option maxHeartbeats 4000000
/-! enumerate of a tuple; a rule that reads either way -/
namespace L2
open PySem PySem.Spec PyProof.Rows
/-- a list or a tuple -/
def SqE (K : PySem.W.Frag) (H : Hp) (a : Addr) (xs : List V) : Prop := SqL K H a xs ∨ SqT K H a xs
/-- the tuple at a, its items in new pairs behind their places -/
def Itf (K : PySem.W.Frag) (a : Addr) : It :=
  ⟨fun i H => ∃ (zs : List V) (z : V), SqT K H a zs ∧ zs[i]? = some z, fun i H v H' => ∃ P z, v = .ref P ∧ H P = none ∧ H' = upd H P (.tup [.int (i : Nat), z]) ∧ ∀ zs, SqT K H a zs → zs[i]? = some z,
    fun i H => ∃ zs : List V, SqT K H a zs ∧ zs.length = i⟩
theorem turn_enumF {P : Program} {w : World} {K : PySem.W.Frag} {es : List Expr} {m : Nat} {tp : Pos} (a g it : Addr) :
    Turn P w K (.Tuple es m tp) (Itf K a) [g, it] g (fun i h => (∃ old, IsEnum h g it ((i : Nat) : Int) old) ∧ h.IsTupleIter it a i ∧ g ≠ it) where
  mem := by simp
  obj := fun i h st b hb => by
    obtain ⟨⟨old, he⟩, ⟨o, ho, hc, hd⟩, _⟩ := st
    rcases (show b = g ∨ b = it by simpa using hb) with z | z
    · subst z; exact ⟨_, he, fun v q => nomatch q⟩
    · subst z; exact ⟨o, ho, fun v q => by rw [hd] at q; cases q⟩
  keep := fun i h h' st k => by
    obtain ⟨⟨old, he⟩, hi, hne⟩ := st
    exact ⟨⟨old, k g (by simp) _ he⟩, hi.at fun o q => k it (by simp) o q, hne⟩
  item := by
    intro X eP ew eK hc i pins s σ H E Iv fpo st go
    subst eP ew eK
    obtain ⟨⟨old, he⟩, hit, hne⟩ := st
    obtain ⟨zs, z, hq, hx⟩ := go
    obtain ⟨its, rv, p, hz⟩ := Iv.tuple hq
    obtain ⟨u, hu, ru⟩ := rv.get hx
    have gl : g < s.heap.objs.size := Heap.lt_size he
    have il : it < s.heap.objs.size := by obtain ⟨_, q, _⟩ := hit; exact Heap.lt_size q
    have tu : s.heap.IsTuple a its.toArray := p
    have ai : a ≠ it := by
      rintro rfl
      obtain ⟨o, e1, c1, d1⟩ := hit
      obtain ⟨o2, e2, c2, _⟩ := tu
      rw [e1] at e2
      obtain rfl := Option.some.inj e2
      rw [c1] at c2; exact absurd c2 (by decide)
    have ga : g ≠ a := by
      rintro rfl
      obtain ⟨o2, e2, c2, _⟩ := tu
      rw [show s.heap.get? g = some _ from he] at e2
      obtain rfl := Option.some.inj e2
      exact absurd (show Value.type "enumerate" = Value.type "tuple" from c2) (by decide)
    have D := Draws.tuple (prog := X.prog) (w := X.w) (A := X.A.in1) (Iv.ok.hd hc) it a ai its.toArray
    refine wpAny_pyNext_enum_itemC D he (i := i) ⟨hit, tu⟩ (by have := (List.getElem?_eq_some_iff.mp hu).1; simpa using this) hne (by simp [hne, ga]) fun x h1 tk hx1 ho hst1 hT hsz hk => ?_
    obtain rfl : x = u := by
      have : its.toArray[i]? = some u := by simpa using hu
      rw [this] at hx1
      exact (Option.some.inj hx1).symm
    refine ⟨_, rfl, wpAny_letOwnedTupleGo_enum (s := { s with heap := h1, toks := tk + 1 }) ho fun h2 he2 sb => ?_⟩
    have hT2 := (sb.2 _ (Nat.ne_of_gt gl)).trans hT
    have nw : ObjOk X.prog X.w (upd H s.heap.objs.size (.tup [.int (i : Nat), z])) h2 s.heap.objs.size (.tup [.int (i : Nat), z]) :=
      ⟨by show 2 ≤ sizeLine; decide, [.int i tk, x], .cons ⟨_, rfl⟩ (.cons ru .nil), ⟨_, hT2, rfl, _, rfl⟩⟩
    have I1 : Inv X pins σ (upd H s.heap.objs.size (.tup [.int (i : Nat), z])) { s with heap := h2, toks := tk + 1 } :=
      Iv.turnedNew (ch := [g, it]) (fun b ob hb q => (sb.2 b (fun y => hb (by simp [y]))).trans (hk b ob (fun y => hb (by simp [y])) (fun y => hb (by simp [y])) q)) fpo (Nat.le_refl _) nw
    refine ⟨.ref s.heap.objs.size, _, I1, rfl, ⟨_, z, rfl, Iv.hok.fresh (Nat.le_refl _), rfl, fun ys hy => by rw [Iv.tuple_inj hy hq]; exact hx⟩, ⟨⟨x, ?_⟩, hst1.1.at fun o q => (sb.2 it (Ne.symm hne)).trans q, hne⟩, fun b hb => ?_⟩
    · rw [show ((i + 1 : Nat) : Int) = (i : Int) + 1 by omega]; exact he2
    · have hb' : b < s.heap.objs.size := by
        rcases (show b = g ∨ b = it by simpa using hb) with y | y
        · subst y; exact gl
        · subst y; exact il
      rw [upd_ne (Nat.ne_of_lt hb')]
      exact (fpo b hb).1
  done := by
    intro X eP ew eK hc i pins s σ H E Iv fpo st go
    subst eP ew eK
    obtain ⟨⟨old, he⟩, hit, hne⟩ := st
    obtain ⟨zs, hq, hx⟩ := go
    obtain ⟨its, rv, p, hz⟩ := Iv.tuple hq
    obtain ⟨f0, f1, f2, f3, f4, f5⟩ := fpo it (by simp)
    have tu : s.heap.IsTuple a its.toArray := p
    have ai : a ≠ it := by
      rintro rfl
      obtain ⟨o, e1, c1, d1⟩ := hit
      obtain ⟨o2, e2, c2, _⟩ := tu
      rw [e1] at e2
      obtain rfl := Option.some.inj e2
      rw [c1] at c2; exact absurd c2 (by decide)
    have D := Draws.tuple (prog := X.prog) (w := X.w) (A := X.A.in1) (Iv.ok.hd hc) it a ai its.toArray
    have hl : its.toArray.size = i := by rw [List.size_toArray, ← rv.length]; exact hx
    exact wpAny_pyNext_enum_endD D he (by rw [hl]; exact ⟨hit, tu⟩) fun h1 eb => ⟨rfl, Iv.turned (t' := s.toks) (fun b o hb q => eb b o hb q) f0 f1 f3 f4 f5⟩
  self := fun A i s Q E st h => let ⟨⟨_, he⟩, _⟩ := st; wpAny_pyIter_enum he h
def iEnumF (K : PySem.W.Frag) (ta : TA) : TI := fun σ H R => ta σ H fun vs H1 => ∃ a zs, vs = [.ref a] ∧ SqT K H1 a zs ∧ R (Itf K a) H1
theorem pi_enumF {X : Cx} {e : Expr} {ta : TA} {p pos tp : Pos} {es : List Expr} {m : Nat} (hg : Gl X "enumerate") (hm : X.mg "enumerate" = none) (ha : PA X [e] ta) (hs : starEach [e] X.env = [(false, eval e X.env)] := by rfl) :
    PI X (.Tuple es m tp) (.Call (.Name "enumerate" p) [e] [] pos) (iEnumF X.K ta) := by
  refine ⟨fun pins s σ H R Iv h => Call_ (ld_blt Iv hg hm boot_enumerate (PyProof.Rows.callWith_type1 (thn (ha.run pos pins s σ H _ Iv h) fun us s1 ⟨vs, H1, I1, r1, q1⟩ => ?_) hs rfl))⟩
  obtain ⟨a, zs, rfl, hq, q⟩ := q1
  rw [Vals.ref1 r1]
  obtain ⟨its, rv, tu, hz⟩ := I1.tuple hq
  refine enum_call1 (begins_tuple a its.toArray) (show s1.heap.IsTuple a its.toArray from tu) fun h1 he hit hsz hk => wpAny_pyIter_enum he ?_
  have I2 : Inv X pins σ H1 { s1 with heap := h1 } := I1.kept (t' := s1.toks) hk
  refine ⟨s1.heap.objs.size + 1, [s1.heap.objs.size + 1, s1.heap.objs.size], _, _, H1, rfl, I2, turn_enumF a (s1.heap.objs.size + 1) s1.heap.objs.size, ⟨⟨.none, he⟩, ⟨_, hit, rfl, rfl⟩, Nat.succ_ne_self _⟩, fun b hb => ?_, q⟩
  have hle : s1.heap.objs.size ≤ b := by
    rcases (show b = s1.heap.objs.size + 1 ∨ b = s1.heap.objs.size by simpa using hb) with z | z <;> subst z
    · exact Nat.le_add_right _ _
    · exact Nat.le_refl _
  exact I1.fpOk hle (I1.hok.fresh hle)
/-- either reading -/
theorem pi_or {X : Cx} {tg it : Expr} {u v : TI} (a : PI X tg it u) (b : PI X tg it v) : PI X tg it (fun σ H R => u σ H R ∨ v σ H R) :=
  ⟨fun pins s σ H R I h => h.elim (a.run pins s σ H R I) (b.run pins s σ H R I)⟩
theorem cr_or {X : Cx} {f : Value} {r q : List V → Hp → VK → Prop} (a : CallR X f r) (b : CallR X f q) : CallR X f (fun xs H Q => r xs H Q ∨ q xs H Q) :=
  fun pins s σ H xs us Q I rs h => h.elim (a pins s σ H xs us Q I rs) (b pins s σ H xs us Q I rs)
/-! ### max of a tuple -/
section
variable {prog : Program} {w : World} {A : Around} {E : Value → Shared → Prop} {s : Shared} {a : Addr} {its : List Value} {ns : List Int} {Q : Value → Shared → Prop}
theorem max_tup (hh : A.handled = none) (hl : s.heap.IsTuple a its.toArray) (hi : IntsAre its ns) (hne : 0 < ns.length)
    (h : ∀ h1 tk M t, (∀ b o, s.heap.get? b = some o → h1.get? b = some o) → M ∈ ns → (∀ y, y ∈ ns → y ≤ M) → Q (.int M t) { s with heap := h1, toks := tk }) : wpAny (model prog w) A (call (.builtin "max") [.ref a]) Q E s := by
  obtain ⟨xs, e⟩ := hi.allInts.items
  have hn : numsOf (intItems xs).toList = ns := by rw [← e]; exact hi.numsOf
  rw [nums_intItems] at hn
  subst hn
  rw [e] at hl
  have hsz : 0 < xs.size := by simpa using hne
  have lt : a < s.heap.objs.size := by obtain ⟨_, q, _⟩ := hl; exact Heap.lt_size q
  refine call_max_walk (wpAny_pyIter_tuple hl ⟨_, _, _, _, _, _, _, rfl, Walks.tuple (A := A.in1) hh _ a (Nat.ne_of_lt lt) (intItems xs), ⟨⟨_, Heap.get?_push_size _ rfl, rfl, rfl⟩, hl.push _⟩, fun b hb => ?_, by simpa [intItems] using hsz, CmpOf.ints_gt (numAt xs) (fun _ _ => intItems_at), fun v h1 tk hv hk => ?_⟩)
  · show b < (s.heap.push _).objs.size
    rw [Heap.size_push]
    rcases (show b = s.heap.objs.size ∨ b = a by simpa using hb) with z | z <;> subst z
    · exact Nat.lt_succ_self _
    · exact Nat.lt_succ_of_lt lt
  · have hv : (intItems xs)[argBest (fun i j => decide (numAt xs i > numAt xs j)) (xs.size - 1)]? = some v := by simpa [intItems] using hv
    obtain ⟨t, rfl⟩ := intItems_at hv
    obtain ⟨k1, k2⟩ := argBest_gt (numAt xs) (xs.size - 1)
    refine h h1 tk _ t (fun b o q => hk b o (fun hm => ?_) (Heap.get?_push_of_some _ q)) ?_ fun y hy => ?_
    · have : b = s.heap.objs.size := by simpa using hm
      exact absurd (this ▸ Heap.lt_size q) (Nat.lt_irrefl _)
    · rw [numAt_eq]; exact PySem.getD_mem (by rw [List.length_map, Array.length_toList]; omega)
    · obtain ⟨j, hj, rfl⟩ := mem_getD hy
      rw [List.length_map, Array.length_toList] at hj
      rw [← numAt_eq]; exact k2 j (by omega)
end
def rMaxT (K : PySem.W.Frag) : List V → Hp → VK → Prop := fun vs H Q => ∃ (a : Addr) (ns : List Int), vs = [V.ref a] ∧ SqT K H a (ns.map V.int) ∧ 0 < ns.length ∧ ∀ m, m ∈ ns → (∀ y, y ∈ ns → y ≤ m) → Q (.int m) H
theorem cr_maxT {X : Cx} (hc : X.calm = true) : CallR X (.builtin "max") (rMaxT X.K) := by
  intro pins s σ H vs us Q Iv r h
  obtain ⟨a, ns, rfl, hs, hne, q⟩ := h
  obtain ⟨its, rv, tu, _⟩ := Iv.tuple hs
  rw [Vals.ref1 r]
  exact max_tup (Iv.ok.hd hc) (show s.heap.IsTuple a its.toArray from tu) rv.ints hne fun h1 tk m t hk h1' h2 => ⟨.int _, H, Iv.kept hk, ⟨_, rfl⟩, q m h1' h2⟩
end L2

set_option Elab.async false
set_option linter.all false
set_option maxRecDepth 100000
set_option maxHeartbeats 4000000
/-! x == y, x != y: x an instance whose class has an own == (answers any flag) and no own != -/
namespace PySem.W
open PySem PySem.Spec PyProof.Rows Builtin
section
variable {prog : Program} {w : World} {A : Around} {E : Value → Shared → Prop} {s : Shared} {K : Frag} {x C f : Addr} {ox : Obj} {od : Option Obj} {b tb : Value}
theorem objNe_run {Q : Fin → Shared → Prop} (X : K.In s.heap) (I : InstAt s.heap x ox C od) (he : findIn K (.ref C) "__eq__" = some (some (.ref f))) (hf : isFn K (.ref f) = true) (hu : A.units < cLine)
    (h : wpAny (model prog w) A (call (.ref f) [.ref x, b]) (fun v s' => ∃ r, v = .bool r ∧ Q (.done (.ret (.bool (!r)))) s') E s) :
    wpAny (model prog w) A (Builtin.«object.__ne__» ⟨[.ref x, b], []⟩) Q E s := by
  unfold Builtin.«object.__ne__»
  repeat (first
    | with_reducible refine wpAny_cRoomFor hu ?_
    | (refine wpAny_bind (m := callSpecialIfBound? (.ref x) (Str.ofString "__eq__") [b])
        (ifBound_K X I he hf (wpAny_mono h (fun v s1 hv => by
          obtain ⟨r, rfl, q⟩ := hv
          repeat (first | exact q | exact wpAny_pure q | exact wpAny_truthy_bool q | (refine wpAny_bind (m := truthy (.bool _)) (wpAny_truthy_bool ?_)) | wp_step)) fun _ _ e => e)))
    | wp_step)
theorem tryNe {Q : Option Value → Shared → Prop} (X : K.In s.heap) (I : InstAt s.heap x ox C od) (hs : findIn K (.ref C) "__ne__" = some (some (.builtin "object.__ne__"))) (he : findIn K (.ref C) "__eq__" = some (some (.ref f))) (hf : isFn K (.ref f) = true)
    (ho : subIn K (.ref C) (.type "object") = some true) (hu : A.units + 1 < cLine)
    (h : wpAny (model prog w) A.in1 (call (.ref f) [.ref x, b]) (fun v s' => ∃ r, v = .bool r ∧ Q (some (.bool (!r))) s') E s) : wpAny (model prog w) A (tryCompare (.ref x) "__ne__" b) Q E s := by
  have S := F.cmp_object.ne
  have isI : Looks (model prog w) s.heap (isInstance (.ref x) (.type "object")) true := I.type.andThen (looks_subIn X ho)
  unfold tryCompare
  simp only [callSpecialIfBound?, bindSpecialIfBound?]
  refine wpAny_bind (wpAny_holding (wpAny_bind (wpAny_bind (wpAny_bind (I.type.here ((looks_findIn X hs).here ?_))))))
  simp only [S.bind]
  refine wpAny_bind (wpAny_askSetting (wpAny_ite ?_))
  have fin : wpAny (model prog w) A (call (.builtin "object.__ne__") ([.ref x] ++ [b])) (fun v s' => ∃ r, v = .bool r ∧ Q (some (.bool r)) s') E s := by
    refine wpAny_call (codeAny_call_builtin S.plain F.cmpEntry_ne (check_slot F.cmpKind_ne F.cmpSplit_ne isI (F.cmpArgs_ne _ _) (objNe_run (A := A.in1) X I he hf hu (wpAny_mono h (fun v s1 hv => ?_) fun _ _ e => e))))
    obtain ⟨r, e, q⟩ := hv
    exact ⟨r, e, ⟨_, rfl, q⟩⟩
  have fin2 : wpAny (model prog w) A (call (.builtin "object.__ne__") ([.ref x] ++ [b]) >>= fun v => pure (some v)) (fun r s' => ∃ v, r = some (.bool v) ∧ Q (some (.bool v)) s') E s :=
    wpAny_bind (wpAny_mono fin (fun v s1 ⟨r, e, q⟩ => by subst e; exact wpAny_pure ⟨_, rfl, q⟩) fun _ _ e => e)
  have last : wpAny (model prog w) A (call (.builtin "object.__ne__") ([.ref x] ++ [b]) >>= fun v => pure (some v)) (fun r s' => wpAny (model prog w) A (match r with
      | some Value.notImplemented => pure none
      | none => pure none
      | some v => pure (some v)) Q E s') E s := wpAny_mono fin2 (fun r s1 ⟨v, e, q⟩ => by subst e; exact wpAny_pure q) fun _ _ e => e
  split
  · refine wpAny_bind (wpAny_pure (wpAny_pure ?_))
    exact last
  · refine wpAny_tryCatch (wpAny_bind (wpAny_pure (wpAny_pure ?_)))
    exact last
end
end PySem.W

set_option Elab.async false
set_option linter.all false
set_option maxRecDepth 100000
set_option maxHeartbeats 4000000
/-! the operators == and != of such a class -/
namespace L2
open PySem PySem.Spec PyProof.Rows SlX
/-- what a rich comparison sees of the other side: an instance, a tuple -/
def BTy (K : PySem.W.Frag) (H : Hp) (y : V) (tb : Value) : Prop := (∃ b dy gs C', y = .ref b ∧ H b = some (.ins C' dy gs) ∧ tb = .ref C') ∨ (∃ b zs, y = .ref b ∧ SqT K H b zs ∧ tb = .type "tuple") ∨ (∃ i, y = .int i ∧ tb = .type "int")
section
variable {X : Cx} {CX : CXT} {pins : List (Addr × Obj)} {σ : L2.St} {H : Hp} {s : Shared} {C g : Addr} {n : Nat} {sp : Sp} {E : XK} {y : V} {u tb : Value}
theorem BTy.looks (h : BTy X.K H y tb) (Iv : Inv X pins σ H s) (r : RelV y u) : PySem.W.Looks (model X.prog X.w) s.heap (typeOf u) tb := by
  rcases h with ⟨b, dy, gs, C', rfl, hb, rfl⟩ | ⟨b, zs, rfl, hb, rfl⟩ | ⟨i, rfl, rfl⟩
  · cases (show u = Value.ref b from r)
    obtain ⟨mB, J, _⟩ := ins_get Iv.hok hb
    obtain ⟨od, J, _⟩ := J.look
    exact J.type
  · cases (show u = Value.ref b from r)
    obtain ⟨its, rv, tu, _⟩ := Iv.tuple hb
    obtain ⟨o, e, c, _⟩ := (show s.heap.IsTuple b its.toArray from tu)
    exact fun A Q E s' k q => wpAny_typeOf_ref (k _ _ e) (by rw [c]; exact q)
  · obtain ⟨t, e⟩ := (show ∃ t, u = Value.int i t from r)
    cases e
    exact PySem.W.Looks.of_pure rfl
def rEqI (K : PySem.W.Frag) (C : Addr) (sp : Sp) (E : XK) : R2 := fun x y H Q => ∃ a dx fs tb, x = .ref a ∧ H a = some (.ins C dx fs) ∧ BTy K H y tb ∧ PySem.W.notFirst K C tb = true ∧ sp [x, y] H Q E
theorem op_eqI (hs : PySem.W.findIn X.K (.ref C) "__eq__" = some (some (.ref g))) (hf : PySem.W.isFn X.K (.ref g) = true) (F : FnR X.prog X.w X.K X.mg X.base CX n g sp) (hr : Room n X.A) (hx : Passes CX X E) : OpR X (compareOp .Eq) (rEqI X.K C sp E) := by
  intro pins s σ H x y v u Q Iv rx ry h
  obtain ⟨a, dx, fs, tb, rfl, ha, ht, hn, q⟩ := h
  cases (show v = Value.ref a from rx)
  obtain ⟨mA, J, _⟩ := ins_get Iv.hok ha
  obtain ⟨od, J, _⟩ := J.look
  obtain ⟨m, hF⟩ := Iv.fr
  show wpAny _ _ (richCompare .Eq (.ref a) u) _ _ _
  refine PySem.W.cmp_K (op := .Eq) (tb := tb) hr.units0 hF Iv.ok.mod.kin J (ht.looks Iv ry) hn hs hf ?_
  refine wpAny_mono (wpAny_call (run_fnR (us := [.ref a, u]) (vs := [.ref a, y]) F hr hx Iv (.cons rfl (.cons ry .nil)) q)) (fun w1 s1 z => ?_) fun _ _ x => x
  obtain ⟨z1, H1, I1, rz, qz⟩ := z
  exact cmpback rz ⟨z1, H1, I1, rz, qz⟩
def rNeI (K : PySem.W.Frag) (C : Addr) (sp : Sp) (E : XK) : R2 := fun x y H Q => ∃ a dx fs tb, x = .ref a ∧ H a = some (.ins C dx fs) ∧ BTy K H y tb ∧ PySem.W.notFirst K C tb = true ∧ sp [x, y] H (fun v H1 => ∃ b, v = .bl b ∧ Q (.bl (!b)) H1) E
theorem op_neI (hN : PySem.W.findIn X.K (.ref C) "__ne__" = some (some (.builtin "object.__ne__"))) (hs : PySem.W.findIn X.K (.ref C) "__eq__" = some (some (.ref g))) (hf : PySem.W.isFn X.K (.ref g) = true) (ho : PySem.W.subIn X.K (.ref C) (.type "object") = some true)
    (F : FnR X.prog X.w X.K X.mg X.base CX n g sp) (hr : Room (n + 1) X.A) (hx : Passes CX X E) : OpR X (compareOp .NotEq) (rNeI X.K C sp E) := by
  intro pins s σ H x y v u Q Iv rx ry h
  obtain ⟨a, dx, fs, tb, rfl, ha, ht, hn, q⟩ := h
  cases (show v = Value.ref a from rx)
  obtain ⟨mA, J, _⟩ := ins_get Iv.hok ha
  obtain ⟨od, J, _⟩ := J.look
  have hr1 : Room n X.A.in1 := Room.in1 hr
  have hb := ht.looks Iv ry
  have one : wpAny (model X.prog X.w) X.A (tryCompare (.ref a) "__ne__" u) (fun r s1 => ∃ b, r = some (.bool b) ∧ EP X pins σ Q (.bool b) s1) X.xe s := by
    refine PySem.W.tryNe Iv.kIn J hN hs hf ho (by have := hr1.units0; exact this) ?_
    refine wpAny_mono (wpAny_call (run_at (us := [.ref a, u]) (ws := [.ref a, y]) F hr1 Iv.env0.in1 hx Iv (.cons rfl (.cons ry .nil)) q)) (fun w1 s1 z => ?_) fun _ _ x => x
    obtain ⟨z1, H1, I1, rz, b, e, qz⟩ := z
    subst e
    cases (show w1 = Value.bool b from rz)
    exact ⟨b, rfl, ⟨_, rfl, .bl (!b), H1, I1, rfl, qz⟩⟩
  show wpAny _ _ (richCompare .NotEq (.ref a) u) _ _ _
  unfold richCompare
  simp only [oneThing_ref]
  refine wpAny_holding (wpAny_bind (wpAny_cRoomFor hr.units0 ?_))
  rw [cmpInfo_NotEq]
  dsimp only
  refine wpAny_bind (J.type.here (wpAny_bind (hb.here ?_)))
  have two : wpAny (model X.prog X.w) X.A (tryCompare (.ref a) "__ne__" u) (fun r s1 => ∃ b, r = some (.bool b) ∧ EP X pins σ Q (.bool b) s1) X.xe s := one
  split
  · rename_i q0
    have e : PySem.W.subIn X.K tb (.ref C) = some false := by
      rcases Bool.or_eq_true_iff.mp hn with e | e
      · rw [beq_iff_eq.mp e] at q0; simp at q0
      · exact beq_iff_eq.mp e
    refine wpAny_bind ((PySem.W.looks_subIn Iv.kIn e).here ?_)
    simp only [Bool.false_eq_true, if_false]
    refine wpAny_bind (wpAny_mono two (fun r s1 z => ?_) fun _ _ e => e)
    obtain ⟨b, rfl, hq⟩ := z
    exact wpAny_pure hq
  · refine wpAny_bind (wpAny_pure ?_)
    simp only [Bool.false_eq_true, if_false]
    refine wpAny_bind (wpAny_mono two (fun r s1 z => ?_) fun _ _ e => e)
    obtain ⟨b, rfl, hq⟩ := z
    exact wpAny_pure hq
end
end L2

set_option Elab.async false
set_option linter.all false
set_option maxRecDepth 100000
set_option maxHeartbeats 4000000
/-! one token is out: kept through a for over range(c) and a comprehension (e.replace of written texts asks for it) -/
namespace L2
open PySem PySem.Spec PyProof.Rows
section
variable {α : Type} {t : Sem α} {M : Model} {A : Around} {E E2 : Value → Shared → Prop} {s : Shared} {Q Q2 : α → Shared → Prop}
theorem thk (one : 1 ≤ s.toks) (h : wpAny M A t Q E s) (k : ∀ a s1, 1 ≤ s1.toks → Q a s1 → Q2 a s1) : wpAny M A t Q2 E s :=
  wpAny_mono (wpAny_toks_of one h) (fun a s1 q => k a s1 q.1 q.2) fun _ _ z => z.2
theorem thkF (one : 1 ≤ s.toks) (h : wpAny M A t Q (fun _ _ => False) s) (k : ∀ a s1, 1 ≤ s1.toks → Q a s1 → Q2 a s1) : wpAny M A t Q2 E2 s :=
  wpAny_mono (wpAny_toks_of one h) (fun a s1 q => k a s1 q.1 q.2) fun _ _ z => False.elim z.2
end
section
variable {X : Cx}
/-- what a for asks of its turns -/
def tForR (g : TG) (tb : TS) (D : Ends) (σ : St) : It → Hp → Prop := fun J G => ∃ W : Nat → Nat → St → Hp → Prop, (∃ m, W 0 m σ G) ∧ ∀ i m ρ G1, W i m ρ G1 →
  (J.stop i G1 ∧ D.nx ρ G1) ∨ (J.go i G1 ∧ ∃ N : St → Hp → Prop, (∀ ρ1 G2, N ρ1 G2 → ∃ m1, m1 < m ∧ W (i + 1) m1 ρ1 G2) ∧
    ∀ x G2, J.yld i G1 x G2 → g x ρ G2 fun ρ2 G3 => tb { D with nx := N, ct := N, bk := D.nx } ρ2 G3)
/-- for x in range(c): the written c is an int that is made -/
theorem ps_forT {c : Int} {j : Nat} {cp p pos fpos : Pos} {tg : Expr} {body : List Stmt} {g : TG} {tb : TS} (own : PassesOwn (model X.prog X.w) X.A X.env X.xe) (calm : X.calm = true) (hg : Gl X "range") (hm : X.mg "range" = none)
    (gg : PG X tg g) (hb : PSsT X body tb) (c0 : 0 ≤ c) (c1 : c < 2 ^ 62) (hs : starEach [.Constant (.int c) j cp] X.env = [(false, eval (.Constant (.int c) j cp) X.env)] := by rfl)
    (fo : ∀ x, foldedSetIterable (.Call (.Name "range" p) [.Constant (.int c) j cp] [] pos) X.env x = pure x := by intro _; rfl) :
    PS X (.For tg (.Call (.Name "range" p) [.Constant (.int c) j cp] [] pos) body [] fpos) (tFor (fun _ H R => R (Itr 0 c.toNat) H) g tb) := by
  refine ⟨fun pins s σ H D Iv h => ?_⟩
  have ev : ∀ R : It → Hp → Prop, R (Itr 0 c.toNat) H → wpAny (model X.prog X.w) X.A (eval (.Call (.Name "range" p) [.Constant (.int c) j cp] [] pos) X.env) (fun v s1 => 1 ≤ s1.toks ∧ wpAny (model X.prog X.w) X.A (pyIter v) (PIE X pins σ tg R) X.xe s1) X.xe s := fun R hR => by
    refine Call_ (ld_blt Iv hg hm boot_range (PyProof.Rows.callWith_type1 ?_ hs rfl))
    rw [hs]
    refine Calls.spliced_cons (wpAny_Constant_int (k := j) (pos := cp) (Calls.spliced_nil ?_))
    refine thk (by show 1 ≤ s.toks + 1; omega) (call_range_1 (range_it (Iv.tok _) (by omega) (by omega) (by omega) c1 ?_)) fun v s1 o q => ⟨o, q⟩
    have e : (c - 0).toNat = c.toNat := by omega
    rw [e]
    exact hR
  have rdy : tForR g tb D σ (Itr 0 c.toNat) H := h
  refine wpAny_For (thn (ev (tForR g tb D σ) rdy) fun v s1 ⟨o1, h1⟩ => thk o1 h1 fun itv s2 o2 h2 => ?_) fo
  obtain ⟨it, fp, tn, J, H2, rfl, I2, T, st2, f2, W, ⟨m0, w0⟩, turn⟩ := h2
  have stat : ∀ {G : Hp}, (∀ b ∈ fp, G b = none) → ∀ b ∈ fp, FpOk X pins G b := fun z b hb => ⟨z b hb, (f2 b hb).2⟩
  refine codeAny_forLoop_any (fun n s' => 1 ≤ s'.toks ∧ ∃ i ρ G, Inv X pins ρ G s' ∧ tn i s'.heap ∧ (∀ b ∈ fp, G b = none) ∧ W i n ρ G) ?_ m0 ⟨o2, 0, σ, H2, I2, st2, fun b hb => (f2 b hb).1, w0⟩
  rintro n s3 ⟨o3, i, σ3, H3, I3, st3, z3, w3⟩
  rcases turn i n σ3 H3 w3 with ⟨stop, fin⟩ | ⟨go, N, hN, step⟩
  · refine wpAny_passesOwn own (thn (T.done X rfl rfl rfl calm i pins s3 σ3 H3 X.xe I3 (stat z3) st3 stop) fun r s4 ⟨hr, I4⟩ => ?_)
    subst hr
    exact wpAny_execs_nil ⟨σ3, H3, I4, fin⟩
  · refine wpAny_passesOwn own (thk o3 (T.item X rfl rfl rfl calm i pins s3 σ3 H3 X.xe I3 (stat z3) st3 go) fun r s4 o4 ⟨u, hr, h4⟩ => ?_)
    subst hr
    refine wpAny_passesOwn own (thk o4 h4 fun _ s5 o5 ⟨x, H5, I5, r5, y5, st5, z5⟩ => ?_)
    have Ip := I5.pinned (stat z5) (T.obj _ _ st5)
    refine wpAny_passesOwn own (thk o5 (gg.run _ s5 σ3 H5 x u _ Ip r5 (step x H5 y5)) fun _ s6 o6 ⟨σ6, H6, I6, q6⟩ => ?_)
    refine wpAny_passesOwn own (thk o6 (hb _ s6 σ6 H6 _ o6 I6 q6) fun f s7 o7 q7 => ?_)
    have pinned : ∀ {ρ : St} {G : Hp}, Inv X (pins ++ pinsAt fp s5.heap) ρ G s7 → ∀ b ∈ fp, ∀ o, s5.heap.get? b = some o → s7.heap.get? b = some o ∧ G b = none := fun {ρ G} I7 b hb o e =>
      let z := I7.pin (b, o) (List.mem_append_right _ (List.mem_append_right _ (mem_pinsAt hb e)))
      ⟨z.1, z.2.1⟩
    have again : ∀ {ρ : St} {G : Hp}, Inv X (pins ++ pinsAt fp s5.heap) ρ G s7 → N ρ G → ∃ m, m < n ∧ 1 ≤ s7.toks ∧ ∃ i ρ G, Inv X pins ρ G s7 ∧ tn i s7.heap ∧ (∀ b ∈ fp, G b = none) ∧ W i m ρ G := fun {ρ G} I7 n7 => by
      obtain ⟨m1, lt, w7⟩ := hN ρ G n7
      refine ⟨m1, lt, o7, i + 1, ρ, G, I7.unpinned, T.keep _ _ _ st5 fun b hb o e => (pinned I7 b hb o e).1, fun b hb => ?_, w7⟩
      obtain ⟨o, e, _⟩ := T.obj _ _ st5 b hb
      exact (pinned I7 b hb o e).2
    cases f with
    | next => obtain ⟨ρ, G, I7, n7⟩ := q7; exact again I7 n7
    | cont => obtain ⟨ρ, G, I7, n7⟩ := q7; exact again I7 n7
    | brk => obtain ⟨ρ, G, I7, fin⟩ := q7; exact ⟨ρ, G, I7.unpinned, fin⟩
    | ret v => obtain ⟨x7, ρ, G, I7, r7, fin⟩ := q7; exact ⟨x7, ρ, G, I7.unpinned, r7, fin⟩
/-- name = [elt for target in iter], elt where one token is out -/
theorem pst_lcT {i : Nat} {y : Str} {py : Pos} {elt tg iter : Expr} {sco : Scope} {own : List (Str × Nat)} {pos spos : Pos} {wi : TI} {g : TG} {te : TE} (calm : X.calm = true) (nd : X.N.Nodup) (hy : X.N[i]? = some y) (hyl : X.env.scope.names.lookup y = some .local)
    (sw : swapsWith (.ListComp elt [⟨tg, iter, [], 0⟩] sco pos) (some (.Name y py)) spos.line X.env = pure true) (hi : PI X tg iter wi) (ok : BlkOk X.N X.env.scope sco own)
    (gg : ∀ (s : Shared) (H : Hp) (C : Addr) (cl : List (Str × Addr)) (fp : List Addr), PG (X.blk s H sco (compEnvC sco cl C X.env) fp) tg g)
    (ee : ∀ (s : Shared) (H : Hp) (C : Addr) (cl : List (Str × Addr)) (fp : List Addr), PET (X.blk s H sco (compEnvC sco cl C X.env) fp) elt te) (fo : ∀ x, foldedSetIterable iter X.env x = pure x := by intro _; rfl) :
    PST X (.Assign [.Name y py] (.ListComp elt [⟨tg, iter, [], 0⟩] sco pos) spos) (tAsg (tLc wi g tYes te (own.map (·.2))) (gName i)) := by
  intro pins s σ H D one Iv h
  rw [exec_Assign_Name_used _ _ _ _ sw]
  refine wpAny_bind (wpAny_standAt (wpAny_bind ?_))
  show wpAny _ X.A (do let _ ← comprehension (.ListComp elt [⟨tg, iter, [], 0⟩] sco pos) sco X.env (firstIterPos [⟨tg, iter, [], 0⟩] pos) (newList []) false (eval iter X.env) (some (assign (.Name y py) X.env))) _ _ s
  have h : tLc wi g tYes te (own.map (·.2)) σ H (fun x H1 => gName i x σ H1 D.nx) := h
  refine wpAny_bind (thn (Q := fun _ s1 => SP X pins D .next s1) ?_ fun _ s1 q => wpAny_pure (wpAny_pure q))
  have hfree : ∀ y ∈ sco.names, y.2 = .free → ∃ c, X.env.cells.lookup y.1 = some c := fun y hy e => (ok.free y hy e).elim (fun k => Iv.ok.has _ (.inl k)) fun k => Iv.ok.has _ (.inr k)
  refine wpAny_comprehension_free (use := some (assign (.Name y py) X.env)) rfl fo (closure_ok hfree) ok.kind (fun z hz e => by rw [ok.uniq z hz, e]) (thk one (hi.run pins s σ H _ Iv h) fun xv s1 o1 hx => thk o1 hx fun itv s2 o2 h2 => ?_)
  obtain ⟨it, fp, tn, J, H2, rfl, I2, T, st2, f2, q⟩ := h2
  refine wpAny_newObj_type (newEnv_comp ?_) (by show 0 ≤ sizeLine; decide)
  generalize hL : s2.heap.objs.size = L
  have nL : H2 L = none := I2.hok.fresh (Nat.le_of_eq hL)
  obtain ⟨W, ⟨m0, w0⟩, turn⟩ := q L nL
  generalize hs3 : ({ s2 with heap := s2.heap.push { cls := .type "list", data := .seq ([] : List Value).toArray } } : Shared) = s3
  have o3 : 1 ≤ s3.toks := by rw [← hs3]; exact o2
  have g3 : s3.heap = s2.heap.push { cls := .type "list", data := .seq ([] : List Value).toArray } := by rw [← hs3]
  have I3 : Inv X pins σ (upd H2 L (.lst [])) s3 := by
    rw [← hs3]
    refine I2.laid (t' := s2.toks) (fun b o e => Heap.get?_push_of_some _ e) (Nat.le_of_eq hL) ⟨Nat.zero_le _, [], 0, .nil, ?_⟩
    rw [← hL]; exact Heap.get?_push_size _ rfl
  have lt2 : ∀ b ∈ fp, b < s2.heap.objs.size := fun b hb => let ⟨_, e, _⟩ := T.obj _ _ st2 b hb; Heap.lt_size e
  have f3 : ∀ b ∈ fp, FpOk X pins (upd H2 L (.lst [])) b ∧ b < s3.heap.objs.size := fun b hb => by
    refine ⟨⟨?_, (f2 b hb).2⟩, by rw [g3, Heap.size_push]; exact Nat.lt_succ_of_lt (lt2 b hb)⟩
    rw [upd_ne (by rw [← hL]; exact Nat.ne_of_lt (lt2 b hb))]
    exact (f2 b hb).1
  have st3 : tn 0 s3.heap := T.keep _ _ _ st2 fun b _ o e => by rw [g3]; exact Heap.get?_push_of_some _ e
  have I4 := block_start I3 ok nd f3
  have pg := gg s3 (upd H2 L (.lst [])) s3.heap.objs.size (cellsFrom (s3.heap.objs.size + 1) sco.names (cloFrom X.env.cells sco.names [])) fp
  have pe := ee s3 (upd H2 L (.lst [])) s3.heap.objs.size (cellsFrom (s3.heap.objs.size + 1) sco.names (cloFrom X.env.cells sco.names [])) fp
  show codeAny _ _ (.compStart (.ListComp elt [⟨tg, iter, [], 0⟩] sco pos) 0 (.ref it) (.ref L) (compEnvC sco (cellsFrom (s3.heap.objs.size + 1) sco.names (cloFrom X.env.cells sco.names [])) s3.heap.objs.size X.env)) (compPost (model X.prog X.w) X.A X.xe (some (assign (.Name y py) X.env)) (fun _ s1 => SP X pins D .next s1) (.ref L) s3.heap.objs.size) { s3 with heap := pushCells (s3.heap.push { cls := .type "dict", data := .dict #[] }) sco.names }
  have z3 : ∀ b ∈ fp, (upd H2 L (.lst [])) b = none := fun b hb => (f3 b hb).1.1
  generalize hce : compEnvC sco (cellsFrom (s3.heap.objs.size + 1) sco.names (cloFrom X.env.cells sco.names [])) s3.heap.objs.size X.env = ce at I4 pg pe ⊢
  have cl : ce.locals = s3.heap.objs.size := by subst hce; rfl
  generalize hH3 : upd H2 L (.lst []) = H3 at I3 I4 pg pe w0 z3 f3
  generalize hs4 : ({ s3 with heap := pushCells (s3.heap.push { cls := .type "dict", data := .dict #[] }) sco.names } : Shared) = s4 at I4 ⊢
  have o4 : 1 ≤ s4.toks := by rw [← hs4]; exact o3
  have st4 : tn 0 s4.heap := T.keep _ _ _ st3 fun b _ o e => by rw [← hs4]; exact pushCells_keeps _ _ _ _ (Heap.get?_push_of_some _ e)
  have stat : ∀ {ρ : St} {G : Hp} {s' : Shared}, Inv (X.blk s3 H3 sco ce fp) [] ρ G s' → (∀ b ∈ fp, G b = none) → ∀ b ∈ fp, FpOk (X.blk s3 H3 sco ce fp) [] G b := fun {ρ G s'} I' z b hb =>
    ⟨z b hb, (I'.ok.exf b hb).1, I'.ok.exfs b hb, .inl hb, fun x c e => (I'.ok.exf b hb).2 x c e, fun p hp => absurd (show p ∈ ([] : List (Addr × Obj)) ++ [] from hp) (by simp)⟩
  have loop : codeAny (model X.prog X.w) X.A (.compLoop (.ListComp elt [⟨tg, iter, [], 0⟩] sco pos) 0 (.ref it) (.ref L) ce) (compPost (model X.prog X.w) X.A X.xe (some (assign (.Name y py) X.env)) (fun _ s1 => SP X pins D .next s1) (.ref L) s3.heap.objs.size) s4 := by
    refine compLoop_any (fun n s' => 1 ≤ s'.toks ∧ ∃ i G, Inv (X.blk s3 H3 sco ce fp) [] (wipe σ (own.map (·.2))) G s' ∧ tn i s'.heap ∧ (∀ b ∈ fp, G b = none) ∧ W i n G) ?_ m0 ⟨o4, 0, H3, I4, st4, z3, w0⟩
    rintro n s5 ⟨o5, k, H5, I5, st5, z5, w5⟩
    rcases turn k n H5 w5 with ⟨stop, fin⟩ | ⟨go, Nx, hNx, step⟩
    · refine thnF (T.done (X.blk s3 H3 sco ce fp) rfl rfl rfl calm k [] s5 _ H5 (fun _ _ => False) I5 (stat I5 z5) st5 stop) fun r s6 ⟨hr, I6⟩ => ?_
      subst hr
      have I7 : Inv X pins σ H5 s6 := I3.call' (ch := fp) I6.os I6.base I6.hok I6.bare fun b hb => ⟨(f3 b hb).1.2.2.2.1, (f3 b hb).1.2.1, (f3 b hb).1.2.2.2.2.1, (f3 b hb).1.2.2.2.2.2⟩
      have nC : H5 s3.heap.objs.size = none := by rw [← cl]; exact I6.free
      obtain ⟨m, ns, _⟩ := I6.loc
      have ns : s6.heap.Ns ce.locals m := ns
      rw [cl] at ns
      have f := I3.fpOk (Nat.le_refl _) nC
      show wpAny _ _ (assign (.Name y py) X.env (.ref L)) _ _ _
      refine wpAny_assign_Name (store_ok2 (v := V.ref L) I7 nd hy (.inl hyl) rfl (fun s8 I8 ⟨a, sb, ha⟩ => ?_) (.inr hyl))
      obtain ⟨f0, f1, f2, f3, f4, f5⟩ := f
      have ca : s3.heap.objs.size ≠ a := ha.elim (fun z => by rw [z]; exact f1) fun z e => f4 y a z e.symm
      exact ⟨m, ns.sameBut sb ca, fun h3 sb3 => ⟨_, H5, I8.turned (t' := s8.toks) (fun b o hb e => (sb3.2 b hb).trans e) f0 f1 f3 f4 f5, fin⟩⟩
    · refine thkF o5 (T.item (X.blk s3 H3 sco ce fp) rfl rfl rfl calm k [] s5 _ H5 (fun _ _ => False) I5 (stat I5 z5) st5 go) fun r s6 o6 ⟨u, hr, h6⟩ => ?_
      subst hr
      refine thkF o6 h6 fun _ s7 o7 ⟨x, H7, I7, r7, y7, st7, z7⟩ => ?_
      have Ip := I7.pinned (stat I7 z7) (T.obj _ _ st7)
      refine thkF o7 (pg.run _ s7 _ H7 x u _ Ip r7 (step x H7 y7)) fun _ s8 o8 ⟨σ8, H8, I8, hw8, q8⟩ => ?_
      have q8 : te σ8 H8 fun y H4 => ∃ acc, H4 L = some (.lst acc) ∧ acc.length < sizeLine ∧ Nx (upd H4 L (.lst (acc ++ [y]))) := q8
      refine wpAny_tests_nil ?_
      refine thkF o8 (pe _ s8 σ8 H8 _ o8 I8 q8) fun z s10 o10 ⟨yv, H10, I10, r10, acc, hD10, hz10, nx⟩ => ?_
      refine thkF o10 (app_ok (X := X.blk s3 H3 sco ce fp) (Q := fun _ s11 => Inv (X.blk s3 H3 sco ce fp) ([] ++ pinsAt fp s7.heap) σ8 (upd H10 L (.lst (acc ++ [yv]))) s11) I10 hD10 hz10 r10 fun s11 I11 => I11) fun _ s11 o11 I11 => ?_
      obtain ⟨m1, lt, w1⟩ := hNx _ nx
      have pinned : ∀ b ∈ fp, ∀ o, s7.heap.get? b = some o → s11.heap.get? b = some o ∧ (upd H10 L (.lst (acc ++ [yv]))) b = none := fun b hb o e =>
        let z := I11.pin (b, o) (List.mem_append_right _ (List.mem_append_right _ (mem_pinsAt hb e)))
        ⟨z.1, z.2.1⟩
      have len : (wipe σ (own.map (·.2))).length = σ8.length := by rw [← hw8, wipe_length]
      refine ⟨m1, lt, o11, k + 1, _, (I11.unpinned (pins := [])).weak len (fun j v e => ?_), T.keep _ _ _ st7 fun b hb o e => (pinned b hb o e).1, fun b hb => ?_, w1⟩
      · rw [← hw8] at e
        exact (wipe_some e).1
      · obtain ⟨o, e, _⟩ := T.obj _ _ st7 b hb
        exact (pinned b hb o e).2
  exact codeAny_compStart_list loop (T.self X.A 0 _ _ _ st4 loop)
end
end L2

set_option Elab.async false
set_option linter.all false
set_option maxRecDepth 100000
set_option maxHeartbeats 4000000
/-! loops over what is a list or a tuple, as it stood when the loop began -/
namespace L2
open PySem PySem.Spec PyProof.Rows
theorem SqE.same {K : PySem.W.Frag} {H G : Hp} {a : Addr} {xs : List V} (h : SqE K H a xs) (s : Same H G) : SqE K G a xs := h.elim (fun h => .inl (s.seq h)) fun h => .inr (SqT.ext h s)
theorem SqE.ix {K : PySem.W.Frag} {H : Hp} {a : Addr} {xs : List V} (h : SqE K H a xs) {i : Int} {j : Nat} {v : V} {Q : VK} (hi : i = (j : Int)) (hj : xs[j]? = some v) (q : Q v H) : rIx K (.ref a) (.int i) H Q :=
  h.elim (fun h => .inl ⟨a, xs, i, v, rfl, rfl, h, at_of hi hj, q⟩) fun h => .inr (.inl ⟨a, xs, i, v, rfl, rfl, h, at_of hi hj, q⟩)
section
variable {K : PySem.W.Frag} {a : Addr} {xs : List V} {g : TG} {H0 : Hp}
theorem enumE {tb : TS} {D : Ends} {σ : St} (hq : SqE K H0 a xs) (Pv : Nat → St → Hp → Prop) (same : ∀ i ρ H, Pv i ρ H → Same H0 H) (h0 : Pv 0 σ H0)
    (hs : ∀ i x ρ H T, xs[i]? = some x → Pv i ρ H → H T = none → g (.ref T) ρ (upd H T (.tup [.int (i : Nat), x])) fun ρ2 H2 => tb { D with nx := Pv (i + 1), ct := Pv (i + 1), bk := D.nx } ρ2 H2) (hd : ∀ ρ H, Pv xs.length ρ H → D.nx ρ H) :
    (SqL K H0 a xs ∧ tForR g tb D σ (Ite K a) H0) ∨ (SqT K H0 a xs ∧ tForR g tb D σ (Itf K a) H0) := by
  rcases hq with q | q
  · refine .inl ⟨q, fun i m ρ H => m = xs.length - i ∧ i ≤ xs.length ∧ Pv i ρ H, ⟨xs.length, by simp, Nat.zero_le _, h0⟩, ?_⟩
    rintro i m ρ H ⟨rfl, hi, p⟩
    have q1 := (same i ρ H p).seq q
    by_cases lt : i < xs.length
    · refine .inr ⟨⟨xs, xs[i], q1, by simp [lt]⟩, Pv (i + 1), fun ρ1 H1 p1 => ⟨xs.length - (i + 1), by omega, rfl, lt, p1⟩, fun x H1 y => ?_⟩
      obtain ⟨T, z, rfl, n, rfl, y⟩ := y
      exact hs i z ρ H T (y xs q1) p n
    · have e : i = xs.length := by omega
      subst e
      exact .inl ⟨⟨xs, q1, Nat.le_refl _⟩, hd ρ H p⟩
  · refine .inr ⟨q, fun i m ρ H => m = xs.length - i ∧ i ≤ xs.length ∧ Pv i ρ H, ⟨xs.length, by simp, Nat.zero_le _, h0⟩, ?_⟩
    rintro i m ρ H ⟨rfl, hi, p⟩
    have q1 := SqT.ext q (same i ρ H p)
    by_cases lt : i < xs.length
    · refine .inr ⟨⟨xs, xs[i], q1, by simp [lt]⟩, Pv (i + 1), fun ρ1 H1 p1 => ⟨xs.length - (i + 1), by omega, rfl, lt, p1⟩, fun x H1 y => ?_⟩
      obtain ⟨T, z, rfl, n, rfl, y⟩ := y
      exact hs i z ρ H T (y xs q1) p n
    · have e : i = xs.length := by omega
      subst e
      exact .inl ⟨⟨xs, q1, rfl⟩, hd ρ H p⟩
variable {tt : TT} {te : TE} {vs : List Nat} {σ : St} {Q : Addr → Hp → Prop}
/-- what a comprehension asks of its turns -/
def tLcR (g : TG) (tt : TT) (te : TE) (vs : List Nat) (σ : St) (Q : Addr → Hp → Prop) : It → Hp → Prop := fun J H1 => ∀ D, H1 D = none → ∃ W : Nat → Nat → Hp → Prop, (∃ m, W 0 m (upd H1 D (.lst []))) ∧ ∀ i m G, W i m G →
  (J.stop i G ∧ Q D G) ∨ (J.go i G ∧ ∃ Nx : Hp → Prop, (∀ G1, Nx G1 → ∃ m1, m1 < m ∧ W (i + 1) m1 G1) ∧ ∀ x G1, J.yld i G x G1 → g x (wipe σ vs) G1 fun σ2 H2 => wipe σ2 vs = wipe σ vs ∧ tt σ2 H2 fun b H3 =>
    if b = true then te σ2 H3 fun y H4 => ∃ acc, H4 D = some (.lst acc) ∧ acc.length < sizeLine ∧ Nx (upd H4 D (.lst (acc ++ [y]))) else Nx H3)
theorem lc_enumE (hq : SqE K H0 a xs) (Pv : Addr → Nat → Hp → Prop) (same : ∀ D i H, Pv D i H → Same H0 H) (h0 : ∀ D, H0 D = none → Pv D 0 (upd H0 D (.lst [])))
    (hs : ∀ D i x H T, H0 D = none → xs[i]? = some x → Pv D i H → H T = none → g (.ref T) (wipe σ vs) (upd H T (.tup [.int (i : Nat), x])) fun σ2 H2 => wipe σ2 vs = wipe σ vs ∧ tt σ2 H2 fun b H3 =>
      if b = true then te σ2 H3 fun y H4 => ∃ acc, H4 D = some (.lst acc) ∧ acc.length < sizeLine ∧ Pv D (i + 1) (upd H4 D (.lst (acc ++ [y]))) else Pv D (i + 1) H3)
    (hd : ∀ D H, H0 D = none → Pv D xs.length H → Q D H) :
    (SqL K H0 a xs ∧ tLcR g tt te vs σ Q (Ite K a) H0) ∨ (SqT K H0 a xs ∧ tLcR g tt te vs σ Q (Itf K a) H0) := by
  rcases hq with q | q
  · refine .inl ⟨q, fun D hD => ⟨fun i m H => m = xs.length - i ∧ i ≤ xs.length ∧ Pv D i H, ⟨xs.length, by simp, Nat.zero_le _, h0 D hD⟩, ?_⟩⟩
    rintro i m H ⟨rfl, hi, p⟩
    have q1 := (same D i H p).seq q
    by_cases lt : i < xs.length
    · refine .inr ⟨⟨xs, xs[i], q1, by simp [lt]⟩, Pv D (i + 1), fun H1 p1 => ⟨xs.length - (i + 1), by omega, rfl, lt, p1⟩, fun x H1 y => ?_⟩
      obtain ⟨T, z, rfl, n, rfl, y⟩ := y
      exact hs D i z H T hD (y xs q1) p n
    · have e : i = xs.length := by omega
      subst e
      exact .inl ⟨⟨xs, q1, Nat.le_refl _⟩, hd D H hD p⟩
  · refine .inr ⟨q, fun D hD => ⟨fun i m H => m = xs.length - i ∧ i ≤ xs.length ∧ Pv D i H, ⟨xs.length, by simp, Nat.zero_le _, h0 D hD⟩, ?_⟩⟩
    rintro i m H ⟨rfl, hi, p⟩
    have q1 := SqT.ext q (same D i H p)
    by_cases lt : i < xs.length
    · refine .inr ⟨⟨xs, xs[i], q1, by simp [lt]⟩, Pv D (i + 1), fun H1 p1 => ⟨xs.length - (i + 1), by omega, rfl, lt, p1⟩, fun x H1 y => ?_⟩
      obtain ⟨T, z, rfl, n, rfl, y⟩ := y
      exact hs D i z H T hD (y xs q1) p n
    · have e : i = xs.length := by omega
      subst e
      exact .inl ⟨⟨xs, q1, rfl⟩, hd D H hD p⟩
theorem lc_E (hq : SqE K H0 a xs) (Pv : Addr → Nat → Hp → Prop) (same : ∀ D i H, Pv D i H → Same H0 H) (h0 : ∀ D, H0 D = none → Pv D 0 (upd H0 D (.lst [])))
    (hs : ∀ D i x H, H0 D = none → xs[i]? = some x → Pv D i H → g x (wipe σ vs) H fun σ2 H2 => wipe σ2 vs = wipe σ vs ∧ tt σ2 H2 fun b H3 =>
      if b = true then te σ2 H3 fun y H4 => ∃ acc, H4 D = some (.lst acc) ∧ acc.length < sizeLine ∧ Pv D (i + 1) (upd H4 D (.lst (acc ++ [y]))) else Pv D (i + 1) H3)
    (hd : ∀ D H, H0 D = none → Pv D xs.length H → Q D H) :
    (SqL K H0 a xs ∧ tLcR g tt te vs σ Q (Itl K a) H0) ∨ (SqT K H0 a xs ∧ tLcR g tt te vs σ Q (Itt K a) H0) := by
  rcases hq with q | q
  · refine .inl ⟨q, fun D hD => ⟨fun i m H => m = xs.length - i ∧ i ≤ xs.length ∧ Pv D i H, ⟨xs.length, by simp, Nat.zero_le _, h0 D hD⟩, ?_⟩⟩
    rintro i m H ⟨rfl, hi, p⟩
    have q1 := (same D i H p).seq q
    by_cases lt : i < xs.length
    · refine .inr ⟨⟨xs, xs[i], q1, by simp [lt]⟩, Pv D (i + 1), fun H1 p1 => ⟨xs.length - (i + 1), by omega, rfl, lt, p1⟩, fun x H1 y => ?_⟩
      obtain ⟨e, y⟩ := y
      subst e
      exact hs D i x _ hD (y xs q1) p
    · have e : i = xs.length := by omega
      subst e
      exact .inl ⟨⟨xs, q1, Nat.le_refl _⟩, hd D H hD p⟩
  · refine .inr ⟨q, fun D hD => ⟨fun i m H => m = xs.length - i ∧ i ≤ xs.length ∧ Pv D i H, ⟨xs.length, by simp, Nat.zero_le _, h0 D hD⟩, ?_⟩⟩
    rintro i m H ⟨rfl, hi, p⟩
    have q1 := SqT.ext q (same D i H p)
    by_cases lt : i < xs.length
    · refine .inr ⟨⟨xs, xs[i], q1, by simp [lt]⟩, Pv D (i + 1), fun H1 p1 => ⟨xs.length - (i + 1), by omega, rfl, lt, p1⟩, fun x H1 y => ?_⟩
      obtain ⟨e, y⟩ := y
      subst e
      exact hs D i x _ hD (y xs q1) p
    · have e : i = xs.length := by omega
      subst e
      exact .inl ⟨⟨xs, q1, Nat.le_refl _⟩, hd D H hD p⟩
end
theorem enum_read {K : PySem.W.Frag} {i : Nat} {a : Addr} {xs : List V} {σ : St} {H : Hp} {R : It → Hp → Prop} (hσ : σ[i]? = some (some (.ref a))) (h : (SqL K H a xs ∧ R (Ite K a) H) ∨ (SqT K H a xs ∧ R (Itf K a) H)) :
    iEnum K (tCons (tVar i) tNil) σ H R ∨ iEnumF K (tCons (tVar i) tNil) σ H R :=
  h.elim (fun h => .inl ⟨_, hσ, a, xs, rfl, h.1, h.2⟩) fun h => .inr ⟨_, hσ, a, xs, rfl, h.1, h.2⟩
theorem seq_read {K : PySem.W.Frag} {i : Nat} {a : Addr} {xs : List V} {σ : St} {H : Hp} {R : It → Hp → Prop} (hσ : σ[i]? = some (some (.ref a))) (h : (SqL K H a xs ∧ R (Itl K a) H) ∨ (SqT K H a xs ∧ R (Itt K a) H)) :
    iList K (tVar i) σ H R ∨ iTup K (tVar i) σ H R :=
  h.elim (fun h => .inl ⟨_, hσ, a, rfl, ⟨xs, h.1⟩, h.2⟩) fun h => .inr ⟨_, hσ, a, rfl, ⟨xs, h.1⟩, h.2⟩
/-- a pair as a comprehension's target: K told -/
theorem pg_tupK {X : Cx} {K : PySem.W.Frag} {es : List Expr} {k : Nat} {t : TGs} {n : Nat} {pos : Pos} (hK : X.K = K) (hc : X.calm = true) (h : PGs X es t)
    (hn : (assignEach es X.env).length = n := by rfl) (hst : (assignEach es X.env).findIdx? (·.1) = none := by rfl) : PG X (.Tuple es k pos) (gTup K n t) := by
  subst hK
  exact pg_tup hc h hn hst
theorem CallR.imp {X : Cx} {f : Value} {r q : List V → Hp → VK → Prop} (h : CallR X f r) (i : ∀ xs H Q, q xs H Q → r xs H Q) : CallR X f q := fun pins s σ H xs us Q I rs hq => h pins s σ H xs us Q I rs (i xs H Q hq)
theorem same_new' {H : Hp} {p : Addr} {o : HO} (h : H p = none) : Same H (upd H p o) := fun b u e => by rw [upd_ne (ne_of_none e h)]; exact e
/-- tuple(x), x a list or a tuple -/
theorem call_tupE {X : Cx} : CallR X (.type "tuple") (fun xs H Q => ∃ a ys, xs = [.ref a] ∧ SqE X.K H a ys ∧ ∀ p G, Same H G → SqT X.K G p ys → Q (.ref p) G) :=
  CallR.imp call_tuple_of fun xs H Q h => by
    obtain ⟨a, ys, e, h, q⟩ := h
    refine ⟨a, ys, e, ?_⟩
    rcases h with h | h
    · exact .inl ⟨h, fun l nl => q l _ (same_new' nl) (SqT.of upd_same)⟩
    · exact .inr ⟨h, q a H (Same.refl H) h⟩
/-- max(x), x a list or a tuple of whole numbers -/
theorem cr_maxE {X : Cx} (hc : X.calm = true) : CallR X (.builtin "max") (fun xs H Q => ∃ (a : Addr) (ns : List Int), xs = [.ref a] ∧ SqE X.K H a (ns.map V.int) ∧ 0 < ns.length ∧ ∀ m, m ∈ ns → (∀ y, y ∈ ns → y ≤ m) → Q (.int m) H) :=
  CallR.imp (cr_or (cr_max hc) (cr_maxT hc)) fun xs H Q h => by
    obtain ⟨a, ns, e, h, n, q⟩ := h
    rcases h with h | h
    · exact .inl ⟨a, ns, e, h, n, q⟩
    · exact .inr ⟨a, ns, e, h, n, q⟩
end L2

set_option Elab.async false
set_option linter.all false
set_option maxRecDepth 100000
set_option maxHeartbeats 4000000
/-! Exceptions of the program as values: made, their fields read, asked by isinstance. -/
namespace XV
open PySem PySem.Spec PyProof.Rows L2
section
variable {X : Cx} {e : Expr} {es : List Expr} {te : TE} {ta : TA} {x : Str} {p1 p2 pos : Pos}
/-- what the written part says of the base class of the errors, at CJ: its __init__ is ValueError's -/
structure BaseC (K : PySem.W.Frag) (CJ : Addr) : Prop where
  rd : PySem.W.readsIn K CJ (.type "type") = true
  ga : PySem.W.specialIn K (.ref CJ) "__getattribute__" = some (some (.builtin "type.__getattribute__"))
  ini : PySem.W.findCls K (.ref CJ) (.type "type") "__init__" = some (.val (.builtin "ValueError.__init__"))
/-- B.__init__(self, ..), B an own class over ValueError without an __init__ of its own -/
theorem pe_binit {CJ : Addr} {pl : Sem Bool} (B : BaseC X.K CJ) (hg : Gl X x) (hm : X.mg x = some (.ref CJ)) (ha : PA X (e :: es) ta)
    (hdb : (x == ("__debug__" : Str)) = false := by decide)
    (hc : eval (.Call (.Attribute (.Name x p1) "__init__" p2) (e :: es) [] pos) X.env = (do
      let ov ← eval (.Name x p1) X.env
      standAt p2.atName
      let (f, first) ← holding [ov] (getMethod ov "__init__" pl)
      callWith pos f first (backTo pos (starEach (e :: es) X.env)) (backToKw pos (keywordEach [] X.env))) := by rfl)
    (he : starEach (e :: es) X.env = (false, eval e X.env) :: starEach es X.env := by rfl) (hpl : (backTo pos (starEach es X.env)).any (·.1) = false := by rfl) :
    PE X (.Call (.Attribute (.Name x p1) "__init__" p2) (e :: es) [] pos) (tVeI X.K ta) := by
  refine ⟨fun pins s σ H Q I h => PySem.W.methodCall_KW (ld_glob I hg hm (PySem.W.method_cls I.kIn B.ga (PySem.W.cls_value I.kIn B.rd B.ini (by decide +kernel) ?_)) hdb) hc⟩
  refine PyProof.Rows.callWith_method1 (thn (ha.run pos pins _ σ H _ (I.tok _) h) fun us s1 ⟨vs, H1, I1, r1, a, C, ws, ev, hl, T, ea, q⟩ => ?_) he hpl
  subst ev
  cases r1 with
  | @cons _ u0 _ ur ra rw' =>
    obtain rfl : u0 = Value.ref a := ra
    have hlen : ur.length ≤ sizeLine := by
      rw [← Paired.length rw', sizeLine_eq]; omega
    exact oinit_ok T I1 ea hlen fun s' J => ⟨.non, H1, J, rfl, q⟩
end
end XV

set_option Elab.async false
set_option linter.all false
set_option maxRecDepth 100000
set_option maxHeartbeats 4000000
/-! an own error class called with keywords: type.__call__, BaseException.__new__, then its own __init__ -/
namespace XV
open PySem PySem.Spec PySem.HandSPX PySem.Calls
open Builtin Builtin.ObjectAttr
section
variable {M : Model} {prog : Program} {w : World} {A : Around} {E : Value → Shared → Prop} {R : Result → Shared → Prop} {hp : Heap} {gs : Array GenState} {dr : Drawn} {tk : Nat} {os : OsState}
variable {nm q : Str} {C N : Addr} {bs bm bmB : List Value} {hdct : Bool} {sn : List Str} {sub : List Value} {ab : Bool} {col : Option Bool} {dd : Option Addr} {k0 k1 k2 k3 k5 : Option Value} {B newId initId : String}
variable {vs : List Value} {kw : List (Str × Value)}
theorem newCheckK (F : ExcBaseFacts B newId initId bmB) (tl : ∀ X : String, bm.contains (.type X) = bmB.contains (.type X)) {Q : Unit → Shared → Prop}
    (oC : hp.get? C = some (excClassObj nm q C N bs bm hdct sn sub ab col dd k0 k1 k2 k3 k5 newId)) (hq : Q () ⟨hp, gs, dr, tk, os⟩) :
    wpAny M A (checkBuiltinCall newId ⟨.ref C :: vs, kw⟩) Q E ⟨hp, gs, dr, tk, os⟩ := by
  have c1 : (Value.ref C :: bm).contains (.type B) = true := by rw [List.contains_cons, tl, F.hasB, Bool.or_true]
  have c2 := F.noStar
  simp only [checkBuiltinCall, F.newKind, F.newSplit, F.newRow]
  repeat (first
    | refine wpAny_loadPart_at oC ?_
    | (refine wpAny_isSubtype_exc oC ?_; rw [c1])
    | refine wpAny_staticBase_exc oC ?_
    | refine wpAny_madeBy_exc oC ?_
    | simp only [bne_self_eq_false, Bool.false_eq_true, if_false]
    | wp_step)
  exact hq
theorem newK (F : ExcBaseFacts B newId initId bmB) (tl : ∀ X : String, bm.contains (.type X) = bmB.contains (.type X))
    (oC : hp.get? C = some (excClassObj nm q C N bs bm hdct sn sub ab col dd k0 k1 k2 k3 k5 newId))
    (hq : R (.ok (.ret (.ref (hp.objs.size + 1)))) ⟨(hp.push (W.kdv_tup vs)).push (excO C hp.objs.size), gs, dr, tk, os⟩) (hl : vs.length ≤ sizeLine) :
    codeAny (model prog w) A (.builtin newId ⟨.ref C :: vs, kw⟩) R ⟨hp, gs, dr, tk, os⟩ := by
  have en := F.ends
  have cB : (Value.ref C :: bm).contains (.type B) = true := by rw [List.contains_cons, tl, F.hasB, Bool.or_true]
  have cA : (Value.ref C :: bm).contains (.type "AttributeError") = false := by
    rw [List.contains_cons, tl, F.noAttr]; rfl
  have cN : (Value.ref C :: bm).contains (.type "NameError") = false := by
    rw [List.contains_cons, tl, F.noName]; rfl
  refine codeAny_builtinAt F.entry ?_
  unfold Builtin.«BaseException.__new__»
  refine wpAt_bind ?_
  show wpAt _ _ _ (stack >>= _) _ _ _
  refine wpAt_bind (wpAt_stack fun p below => wpAt_of_wpAny ?_)
  wp_walk
  refine wpAt_of_wpAny ?_
  rw [F.owner]
  repeat (first
    | with_reducible refine wpAny_madeHere_exc F.canon oC ?_
    | with_reducible refine wpAny_loadPart_at oC ?_
    | (with_reducible refine wpAny_isSubtype_exc oC ?_; first | rw [cB] | rw [cA] | rw [cN])
    | wp_step)
  show R _ _
  rw [Heap.size_push]
  exact hq
theorem typeCallK (F : ExcBaseFacts B newId initId bmB) (tl : ∀ X : String, bm.contains (.type X) = bmB.contains (.type X)) {fI : Addr} {Q : Fin → Shared → Prop}
    (oC : hp.get? C = some (excClassObj nm q C N bs bm hdct sn sub ab col dd k0 k1 k2 k3 k5 newId))
    (li : W.Looks (model prog w) hp (typeLookup (.ref C) "__init__") (some (.ref fI))) (lb : ∀ self, W.Looks (model prog w) hp (bindSpecial (.ref fI) self) (.ref fI, [self])) (hl : vs.length ≤ sizeLine)
    (hq : codeAny (model prog w) A (.call (.ref fI) ⟨.ref (hp.objs.size + 1) :: vs, kw⟩)
      (fun r s' => match r with | .ok (.ret v) => v = .none ∧ Q (.done (.ret (.ref (hp.objs.size + 1)))) s' | .ok _ => False | .error e => E e s')
      ⟨(hp.push (W.kdv_tup vs)).push (excO C hp.objs.size), gs, dr, tk, os⟩) :
    wpAny (model prog w) A (Builtin.«type.__call__» ⟨.ref C :: vs, kw⟩) Q E ⟨hp, gs, dr, tk, os⟩ := by
  repeat (first | with_reducible refine wpAny_loadPart_at oC ?_ | with_reducible refine wpAny_madeBy_exc oC ?_ | wp_step)
  refine codeAny_call_builtin_code (Code.quiet_builtin _ F.quiet) (newCheckK F tl oC ?_)
  refine newK F tl oC ?_ hl
  show wpAny _ _ _ _ _ _
  have kp : ∀ b o, hp.get? b = some o → ((hp.push (W.kdv_tup vs)).push (excO C hp.objs.size)).get? b = some o := fun b o e =>
    Heap.get?_push_of_some _ (Heap.get?_push_of_some _ e)
  have oC1 := kp _ _ oC
  have oX : ((hp.push (W.kdv_tup vs)).push (excO C hp.objs.size)).get? (hp.objs.size + 1) = some (excO C hp.objs.size) := by heap_get
  have cC : (Value.ref C :: bm).contains (.ref C) = true := by simp
  have l1 := li.keeps kp
  have l2 := (lb (.ref (hp.objs.size + 1))).keeps kp
  unfold isInstance
  repeat (first | with_reducible refine wpAny_loadPart_at oX ?_ | (with_reducible refine wpAny_isSubtype_exc oC1 ?_; rw [cC]) | wp_step)
  show wpAny _ _ (typeLookup (.ref C) _) _ _ _
  refine l1.at ?_
  refine wpAny_holding (wpAny_bind (l2.at ?_))
  refine wpAny_bind (wpAny_call (codeAny_mono hq fun r s' z => ?_))
  rcases r with e | (v | _ | _ | _) <;> first | exact z | exact z.elim | skip
  obtain ⟨rfl, z⟩ := z
  first
    | exact wpAny_pure (wpAny_pure z)
    | (wp_walk; exact z)
theorem callK (F : ExcBaseFacts B newId initId bmB) (tl : ∀ X : String, bm.contains (.type X) = bmB.contains (.type X)) {fI : Addr}
    (oC : hp.get? C = some (excClassObj nm q C N bs bm hdct sn sub ab col dd k0 k1 k2 k3 k5 newId))
    (li : W.Looks (model prog w) hp (typeLookup (.ref C) "__init__") (some (.ref fI))) (lb : ∀ self, W.Looks (model prog w) hp (bindSpecial (.ref fI) self) (.ref fI, [self])) (hl : vs.length ≤ sizeLine)
    (hq : codeAny (model prog w) (A.under (.builtin "type.__call__" ⟨.ref C :: vs, kw⟩)) (.call (.ref fI) ⟨.ref (hp.objs.size + 1) :: vs, kw⟩) (W.InitBack (hp.objs.size + 1) R)
      ⟨(hp.push (W.kdv_tup vs)).push (excO C hp.objs.size), gs, dr, tk, os⟩) :
    codeAny (model prog w) A (.call (.ref C) ⟨vs, kw⟩) R ⟨hp, gs, dr, tk, os⟩ := by
  have f1 := tc_lookup
  have f2 := tc_bind (.ref C)
  have ty : (⟨hp, gs, dr, tk, os⟩ : Shared).TypeIs (.ref C) "type" := ⟨_, oC, rfl⟩
  refine codeAny_of_tree ?_
  show wpAny _ _ (callAny (.ref C) _) _ _ _
  repeat (any_goals (first | assumption | with_reducible refine wpAny_loadPart_at oC ?_ | wp_step))
  refine ⟨rfl, ?_⟩
  refine codeAny_call_builtin_at (Code.quiet_builtin _ (by decide +kernel)) entry_typeCall (wpAny_check_type_call_sub oC (typeCallK F tl oC li lb hl ?_))
  refine codeAny_mono hq fun r s' z => ?_
  rcases r with e | (v | _ | _ | _) <;> exact z
end
end XV

set_option Elab.async false
set_option linter.all false
set_option maxRecDepth 100000
set_option maxHeartbeats 4000000
/-! own errors with an __init__ of their own, made as values -/
namespace XV
open PySem PySem.Spec PyProof.Rows L2
/-- what the written part says of an error class at C: its own __init__ at fI -/
structure ErrC (K : PySem.W.Frag) (C fI : Addr) : Prop where
  T : OexC K C
  iC : PySem.W.findIn K (.ref C) "__init__" = some (some (.ref fI))
  tI : PySem.W.typeIn K (.ref fI) = some (.type "function")
section
variable {X : Cx} {CX : CXT} {k n : Nat} {C fI : Addr} {fd : FuncData} {ps ks : List Str} {sp : Sp} {E : XK} {x : Str} {p pos : Pos} {e : Expr} {es : List Expr} {kws : List Keyword} {ta tk : TA} {g : List Value → List Value → List Value} {gV : List V → List V → List V}
theorem run_err {pins : List (Addr × Obj)} {σ : L2.St} {H : Hp} {s : Shared} {Q : VK} {us ws : List Value} {vs zs : List V} (D : ErrC X.K C fI) (F : FnOk X.prog X.w X.K X.mg X.base CX k fI fd ps sp) (hr : Room (k + 1) X.A)
    (hb : KBn X.K fd ps (n + 1) ks g gV) (hx : Passes CX X E) (I : Inv X pins σ H s) (r : Vals vs us) (rz : Vals zs ws) (l1 : vs.length = n) (l2 : zs.length = ks.length) (ln : n ≤ 1000)
    (h : ∀ a, H a = none → sp (gV (.ref a :: vs) zs) (upd H a (exo a C none)) (fun v H2 => v = .non ∧ Q (.ref a) H2) E) :
    wpAny (model X.prog X.w) X.A (call (.ref C) us (ks.zip ws)) (EP X pins σ Q) X.xe s := by
  obtain ⟨nm, q, N, bs, bm, sn, sub, ab, col, dd, k0, k1, k2, k3, k5, oC, mC⟩ := D.T.cls
  obtain ⟨hp, gs, dr, t0, os⟩ := s
  have old : ∀ b o, hp.get? b = some o → ((hp.push (PySem.W.kdv_tup us)).push (PySem.HandSPX.excO C hp.objs.size)).get? b = some o := fun b o z =>
    Heap.get?_push_of_some _ (Heap.get?_push_of_some _ z)
  have new : ((hp.push (PySem.W.kdv_tup us)).push (PySem.HandSPX.excO C hp.objs.size)).get? (hp.objs.size + 1) = some (PySem.HandSPX.excO C hp.objs.size) := by heap_get
  have sz : hp.objs.size ≤ hp.objs.size + 1 := Nat.le_succ _
  have hq := h (hp.objs.size + 1) (I.hok.fresh sz)
  have I2 := I.laid (t' := t0) (a := hp.objs.size + 1) (o := exo (hp.objs.size + 1) C none) (h' := (hp.push (PySem.W.kdv_tup us)).push (PySem.HandSPX.excO C hp.objs.size)) old sz (exo_ok new)
  have r1 : Vals (V.ref (hp.objs.size + 1) :: vs) (Value.ref (hp.objs.size + 1) :: us) := .cons rfl r
  have e1 : (Value.ref (hp.objs.size + 1) :: us).length = n + 1 := r1.length.symm.trans (congrArg Nat.succ l1)
  have e2 : ws.length = ks.length := rz.length.symm.trans l2
  have hus : us.length ≤ sizeLine := by
    rw [← Paired.length r, l1, sizeLine_eq]; omega
  refine wpAny_call (callK PySem.F.excBase_ValueError (fun Y => PySem.HandSPX.refsVE_contains Y bm mC) (I.kIn _ _ oC) (PySem.W.looks_findIn I.kIn D.iC) (fun self => PySem.W.bind_fn I.kIn self D.tI) hus ?_)
  refine codeAny_mono (F.run _ X.stack _ _ ⟨Value.ref (hp.objs.size + 1) :: us, ks.zip ws⟩ (g (Value.ref (hp.objs.size + 1) :: us) ws) _ _ E (hr.make C us (ks.zip ws)) (I2.env0.make C us (ks.zip ws))
    (hb.to _ _ ws I2.kIn e1 e2) (hb.rel r1 rz) hq) fun res s' z => ?_
  cases res with
  | error er => exact hx pins σ _ _ er s' I2 z
  | ok fl =>
    cases fl with
    | ret u =>
      obtain ⟨v, H2, I3, rv, ev, q3⟩ := I2.after z
      subst ev
      exact ⟨rv, ⟨V.ref (hp.objs.size + 1), H2, I3, rfl, q3⟩⟩
    | next => exact False.elim z
    | brk => exact False.elim z
    | cont => exact False.elim z
/-- C(e, ..) -/
def tErr (C : Addr) (n : Nat) (sp : Sp) (gV : List V → List V → List V) (E : XK) (ta : TA) : TE := fun σ H Q => ta σ H fun vs H1 => vs.length = n ∧
  ∀ a, H1 a = none → sp (gV (.ref a :: vs) []) (upd H1 a (exo a C none)) (fun v H2 => v = .non ∧ Q (.ref a) H2) E
/-- C(k = e, ..) -/
def tErrK (C : Addr) (m : Nat) (sp : Sp) (gV : List V → List V → List V) (E : XK) (tk : TA) : TE := fun σ H Q => tk σ H fun zs H1 => zs.length = m ∧
  ∀ a, H1 a = none → sp (gV [.ref a] zs) (upd H1 a (exo a C none)) (fun v H2 => v = .non ∧ Q (.ref a) H2) E
theorem pe_err (D : ErrC X.K C fI) (F : FnOk X.prog X.w X.K X.mg X.base CX k fI fd ps sp) (hr : Room (k + 1) X.A) (hg : Gl X x) (hm : X.mg x = some (.ref C)) (hb : KBn X.K fd ps (n + 1) [] g gV) (hx : Passes CX X E) (ha : PA X (e :: es) ta) (ln : n ≤ 1000)
    (hdb : (x == ("__debug__" : Str)) = false := by decide) (he : starEach (e :: es) X.env = (false, eval e X.env) :: starEach es X.env := by rfl) (hpl : (backTo pos (starEach es X.env)).any (·.1) = false := by rfl) :
    PE X (.Call (.Name x p) (e :: es) [] pos) (tErr C n sp gV E ta) :=
  ⟨fun pins s σ H Q I h => wpAny_Call_Name_kw (ld_glob I hg hm (PySem.W.callWith_K (h₀ := X.base) I.ok.mod.kin D.T.kC
    (thn (ha.run pos pins s σ H _ I h) fun us s1 ⟨vs, H1, I1, r, l1, q⟩ => ⟨I1.kIn, run_err (ws := []) (zs := []) D F hr hb hx I1 r .nil l1 rfl ln q⟩) he hpl) hdb)⟩
theorem pe_err0 (D : ErrC X.K C fI) (F : FnOk X.prog X.w X.K X.mg X.base CX k fI fd ps sp) (hr : Room (k + 1) X.A) (hg : Gl X x) (hm : X.mg x = some (.ref C)) (hb : KBn X.K fd ps 1 [] g gV) (hx : Passes CX X E) (hdb : (x == ("__debug__" : Str)) = false := by decide) :
    PE X (.Call (.Name x p) [] [] pos) (tErr C 0 sp gV E tNil) :=
  ⟨fun pins s σ H Q I h => wpAny_Call_Name_kw (ld_glob I hg hm (PySem.W.callWith_K0 I.kIn D.T.kC (run_err (us := []) (vs := []) (ws := []) (zs := []) D F hr hb hx I .nil .nil rfl rfl (Nat.zero_le _) h.2)) hdb)⟩
theorem pe_errK (D : ErrC X.K C fI) (F : FnOk X.prog X.w X.K X.mg X.base CX k fI fd ps sp) (hr : Room (k + 1) X.A) (hg : Gl X x) (hm : X.mg x = some (.ref C)) (hb : KBn X.K fd ps 1 ks g gV) (hx : Passes CX X E) (hkw : PK X kws tk)
    (hall : (backToKw pos (keywordEach kws X.env)).all (·.1.isSome) = true := by rfl) (hks : (backToKw pos (keywordEach kws X.env)).filterMap (·.1) = ks := by rfl) (hdb : (x == ("__debug__" : Str)) = false := by decide)
    (hpl : ((backTo pos (starEach [] X.env)).any (·.1) || (backToKw pos (keywordEach kws X.env)).any (·.1.isNone)) = false := by rfl) :
    PE X (.Call (.Name x p) [] kws pos) (tErrK C ks.length sp gV E tk) := by
  refine ⟨fun pins s σ H Q I h => wpAny_Call_Name_kw (ld_glob I hg hm (PySem.W.callWith_KW0 (h₀ := X.base) I.ok.mod.kin D.T.kC hall (thn (hkw.run pos pins s σ H _ I h) fun ws s1 ⟨zs, H1, I1, rz, l2, q⟩ => ⟨I1.kIn, ?_⟩) hpl) hdb)⟩
  rw [hks]
  exact run_err (us := []) (vs := []) D F hr hb hx I1 .nil rz rfl l2 (Nat.zero_le _) q
end
end XV

set_option Elab.async false
set_option linter.all false
set_option maxRecDepth 100000
set_option maxHeartbeats 4000000
/-! errors as values: a field read, isinstance; repr of a list of small data -/
namespace XV
open PySem PySem.Spec PyProof.Rows L2
/-- what the class at D must say, so that its instances' fields are read and isinstance asks them -/
structure ErrR (K : PySem.W.Frag) (D : Addr) : Prop where
  ga : PySem.W.findIn K (.ref D) "__getattribute__" = some (some (.builtin "BaseException.__getattribute__"))
  gt : PySem.W.findIn K (.ref D) "__getattr__" = some none
  sb : PySem.W.subIn K (.ref D) (.type "BaseException") = some true
  hd : PySem.W.hasDictIn K D = true
  ca : PySem.W.findIn K (.ref D) "__class__" = some (some (.builtin "object.__class__"))
  cg : PySem.W.specialIn K (.builtin "object.__class__") "__get__" = some (some (.builtin "getset_descriptor.__get__"))
  ct : PySem.W.takesIn K (.builtin "object.__class__") = some true
  mo : PySem.W.mroIn K D (.type "object") = some true
theorem ErrR.cl {K : PySem.W.Frag} {D : Addr} (R : ErrR K D) : (PySem.W.clsIn K D).isSome = true := by
  obtain ⟨cd, h, _⟩ := PySem.W.any_some R.hd
  rw [h]; rfl
/-- an error of the class at D stands at a, with the fields fs -/
def ErrAt (H : Hp) (a D : Addr) (fs : List (Str × V)) : Prop :=
  (fs = [] ∧ H a = some (exo a D none)) ∨ ∃ dx, H a = some (exo a D (some dx)) ∧ H dx = some (exd dx fs)
theorem ErrAt.same {H H' : Hp} {a D : Addr} {fs : List (Str × V)} (h : ErrAt H a D fs) (s : Same H H') : ErrAt H' a D fs := by
  rcases h with ⟨e, h⟩ | ⟨dx, h1, h2⟩
  · exact .inl ⟨e, s _ _ h⟩
  · exact .inr ⟨dx, s _ _ h1, s _ _ h2⟩
section
variable {X : Cx} {pins : List (Addr × Obj)} {σ : L2.St} {H : Hp} {s : Shared} {e : Expr} {te : TE} {pos : Pos} {n : Str}
theorem ErrAt.inst {a D : Addr} {fs : List (Str × V)} (I : Inv X pins σ H s) (h : ErrAt H a D fs) :
    ∃ ox od, PySem.W.InstAt s.heap a ox D od ∧ ∀ f v, fs.lookup f = some v → ∃ u o, RelV v u ∧ od = some o ∧ PySem.W.lookIn f o = some (some u) := by
  rcases h with ⟨rfl, h⟩ | ⟨dx, h1, h2⟩
  · obtain ⟨t1, ho⟩ := exo_at I.hok h
    exact ⟨_, none, ⟨ho, rfl, rfl, trivial⟩, fun f v z => by cases z⟩
  · obtain ⟨t1, ho⟩ := exo_at I.hok h1
    obtain ⟨mA, hns, rel⟩ := exd_at I.hok h2
    obtain ⟨od, hod, hl⟩ := lookIn_ns hns
    refine ⟨_, some od, ⟨ho, rfl, rfl, hod⟩, fun f v z => ?_⟩
    obtain ⟨u, hu, ru⟩ := RelO.some_of (v := v) (o := mA f) (by rw [← z]; exact rel f)
    exact ⟨u, od, ru, rfl, by rw [hl, hu]⟩
/-- e.f, e an error -/
def tEfld (K : PySem.W.Frag) (f : Str) (te : TE) : TE := fun σ H Q => te σ H fun x H1 => ∃ (a D : Addr) (fs : List (Str × V)) (v : V), x = .ref a ∧ ErrAt H1 a D fs ∧ ErrR K D ∧ PySem.W.findIn K (.ref D) f = some none ∧ fs.lookup f = some v ∧ Q v H1
theorem pe_efld (he : PE X e te) (hb : attributeBase e n X.env (eval e X.env) = eval e X.env := by rfl) : PE X (.Attribute e n pos) (tEfld X.K n te) := by
  refine ⟨fun pins s σ H Q I h => attr_of hb (thn (he.run pins s σ H _ I h) fun u s1 ⟨x, H1, I1, rx, a, D, fs, v, ex, ea, R, no, lk, q⟩ => ?_)⟩
  subst ex
  obtain rfl : u = Value.ref a := rx
  obtain ⟨ox, od, J, rd⟩ := ea.inst I1
  obtain ⟨w', o, rw', rfl, hl⟩ := rd n v lk
  exact PySem.HandSPX.exc_get I1.kIn J R.ga R.gt R.sb (PySem.W.findObj_own R.hd no rfl hl) (handed_of rw') ⟨v, H1, I1.tok _, rw', q⟩
/-- isinstance(e, c), e an error -/
def rIsV (K : PySem.W.Frag) : List V → Hp → VK → Prop := fun xs H Q => ∃ (a D : Addr) (fs : List (Str × V)) (c : V) (cv : Value) (b : Bool), xs = [.ref a, c] ∧ ErrAt H a D fs ∧ ErrR K D ∧ ClsV c cv ∧ PySem.W.kitOne K (.ref D) cv = some b ∧ Q (.bl b) H
theorem call_isV : CallR X (.builtin "isinstance") (rIsV X.K) := by
  intro pins s σ H xs us Q I r h
  obtain ⟨a, D, fs, c, cv, b, rfl, ea, R, hc, e, q⟩ := h
  obtain ⟨u1, u2, rfl, r1, r2⟩ := vals2 r
  obtain rfl : u1 = Value.ref a := r1
  have e2 := hc.eq r2
  subst e2
  obtain ⟨ox, od, J, _⟩ := ea.inst I
  exact PySem.W.kia_one (PySem.W.kitx_exc R.cl R.ga R.gt R.sb R.ca R.cg R.ct R.mo) I.kIn J e (fun z => nomatch z) fun tk => ⟨.bl b, H, I.tok tk, rfl, q⟩
end
/-! ### small data: what the law draws -/
inductive AnyV (H : Hp) : V → PyData → Prop where
  | non : AnyV H .non .none
  | bl (b : Bool) : AnyV H (.bl b) (.bool b)
  | int (i : Int) (h : i.natAbs < 10 ^ 40) : AnyV H (.int i) (.int i)
  | str (x : Str) (h : (reprText x).length ≤ 60) : AnyV H (.str x) (.str x)
  | tup {a : Addr} (ns : List Int) (hn : ns = [] ∨ ns = [1, 2]) (h : H a = some (.tup (ns.map V.int))) : AnyV H (.ref a) (.tuple (ns.map PyData.int))
  | lst {a : Addr} (h : H a = some (.lst [.int 3])) : AnyV H (.ref a) (.list [.int 3])
  | dct {a : Addr} (h : H a = some (.dK [])) : AnyV H (.ref a) (.dict [])
theorem AnyV.same {H H' : Hp} {v : V} {d : PyData} (h : AnyV H v d) (s : Same H H') : AnyV H' v d := by
  cases h with
  | non => exact .non
  | bl b => exact .bl b
  | int i h => exact .int i h
  | str x h => exact .str x h
  | tup ns hn h => exact .tup ns hn (s _ _ h)
  | lst h => exact .lst (s _ _ h)
  | dct h => exact .dct (s _ _ h)
theorem shown_small {H : Hp} {v : V} {d : PyData} (h : AnyV H v d) : d.shown.length ≤ 60 := by
  cases h with
  | non => show ("None" : Str).length ≤ 60; decide +kernel
  | bl b => cases b <;> (show (_ : Str).length ≤ 60) <;> decide +kernel
  | int i h =>
    simp only [PyData.shown]
    have := int_text_length_le10 (a := i) (k := 40) (by decide) h
    show (Str.ofString (toString i)).length ≤ 60
    rw [PySem.ofString_length]
    exact Nat.le_trans this (by decide)
  | str x h => exact h
  | tup ns hn h => rcases hn with rfl | rfl <;> decide +kernel
  | lst h => decide +kernel
  | dct h => decide +kernel
theorem log2_of {i : Int} (h : i.natAbs < 10 ^ 40) : i.natAbs.log2 < 1920 := by
  by_cases z : i.natAbs = 0
  · rw [z]; decide
  · refine (Nat.log2_lt z).mpr (Nat.lt_of_lt_of_le h ?_)
    exact Nat.le_trans (Nat.le_of_ble_eq_true (by decide +kernel) : 10 ^ 40 ≤ 2 ^ 140) (Nat.pow_le_pow_right (by decide) (by decide))

inductive AnyAll (H : Hp) : List V → List PyData → Prop where
  | nil : AnyAll H [] []
  | cons {v : V} {d : PyData} {vs : List V} {ds : List PyData} : AnyV H v d → AnyAll H vs ds → AnyAll H (v :: vs) (d :: ds)
theorem AnyAll.same {H H' : Hp} (s : Same H H') : ∀ {vs : List V} {ds : List PyData}, AnyAll H vs ds → AnyAll H' vs ds
  | _, _, .nil => .nil
  | _, _, .cons h t => .cons (h.same s) (t.same s)
theorem AnyAll.append {H : Hp} : ∀ {vs ws : List V} {ds es : List PyData}, AnyAll H vs ds → AnyAll H ws es → AnyAll H (vs ++ ws) (ds ++ es)
  | _, _, _, _, .nil, k => k
  | _, _, _, _, .cons h t, k => .cons h (t.append k)
theorem textFrom_most : ∀ (ts : List Str) (k : Nat) (acc : Str), (textFrom k acc ts).length ≤ acc.length + piled ts
  | [], k, acc => by show acc.length ≤ _; omega
  | t :: r, k, acc => by
    have h := textFrom_most r (k + 1) (acc ++ (if k > 0 then ", " else "" : String) ++ t)
    have e : (acc ++ (if k > 0 then ", " else "" : String) ++ t).length = acc.length + (if k > 0 then 2 else 0) + t.length := by
      rw [strLen_append, strLen_append]; split <;> rfl
    rw [piled_cons]
    show (textFrom (k + 1) _ r).length ≤ _
    rw [e] at h
    have : (if k > 0 then 2 else 0) ≤ 2 := by split <;> omega
    omega
theorem shownAll_piled {H : Hp} : ∀ {vs : List V} {ds : List PyData}, AnyAll H vs ds → piled (PyData.shownAll ds) ≤ 62 * ds.length
  | _, _, .nil => by simp only [PyData.shownAll]; exact Nat.zero_le _
  | _, _, .cons (ds := ds) h t => by
    have h1 := shown_small h
    have h2 := shownAll_piled t
    simp only [PyData.shownAll]
    rw [piled_cons, List.length_cons]
    omega
theorem shownAll_len : ∀ ds : List PyData, (PyData.shownAll ds).length = ds.length
  | [] => by simp only [PyData.shownAll, List.length_nil]
  | d :: ds => by simp only [PyData.shownAll, List.length_cons, shownAll_len ds]
theorem listText_most {ds : List PyData} {H : Hp} {vs : List V} (h : AnyAll H vs ds) (hl : ds.length ≤ 100) : (listText (PyData.shownAll ds)).length ≤ sizeLine := by
  have h1 := textFrom_most (PyData.shownAll ds) 0 "["
  have h2 := shownAll_piled h
  unfold listText
  rw [strLen_append, sizeLine_eq]
  have e1 : ("[" : Str).length = 1 := by decide +kernel
  have e2 : ("]" : Str).length = 1 := by decide +kernel
  rw [e1] at h1
  rw [e2]
  omega
section
variable {X : Cx} {pins : List (Addr × Obj)} {σ : L2.St} {H : Hp} {s : Shared}
theorem ints_reprAll {h₀ : Heap} {P : Program} {w : World} : ∀ (ns : List Int) (us : List Value), (∀ i ∈ ns, i.natAbs < 10 ^ 40) → Vals (ns.map V.int) us → ReprAllK P w [] h₀ 0 us (PyData.shownAll (ns.map PyData.int))
  | [], _, _, r => by
    cases r
    simp only [List.map_nil, PyData.shownAll]
    exact .nil
  | n :: ns, _, hn, r => by
    cases r with
    | cons r1 r2 =>
      obtain ⟨t, rfl⟩ := r1
      simp only [List.map_cons, PyData.shownAll]
      refine .cons ?_ (ints_reprAll ns _ (fun i hi => hn i (List.mem_cons_of_mem _ hi)) r2)
      simp only [PyData.shown]
      exact .of_is (ReprIs.int t (log2_of (hn n List.mem_cons_self))) _ _ _
/-- one of them, shown; the addresses that its text runs through are tracked, and hold no long list -/
theorem AnyV.reprK {v : V} {d : PyData} {u : Value} (I : Inv X pins σ H s) (h : AnyV H v d) (r : RelV v u) :
    ∃ bs, (∀ b ∈ bs, ∃ o, H b = some o ∧ ∀ xs : List V, 2 ≤ xs.length → o ≠ .lst xs) ∧ ReprK X.prog X.w bs s.heap 1 u d.shown := by
  have nob : ∀ b ∈ ([] : List Addr), ∃ o, H b = some o ∧ ∀ xs : List V, 2 ≤ xs.length → o ≠ .lst xs := fun _ z => nomatch z
  cases h with
  | non => obtain rfl := r; exact ⟨[], nob, .of_is ReprIs.none _ _ _⟩
  | bl b => obtain rfl := r; exact ⟨[], nob, .of_is (ReprIs.bool b) _ _ _⟩
  | int i h => obtain ⟨t, rfl⟩ := r; exact ⟨[], nob, .of_is (ReprIs.int t (log2_of h)) _ _ _⟩
  | str x h =>
    obtain ⟨t, rfl⟩ := r
    exact ⟨[], nob, .of_is (ReprIs.str x t (by rw [sizeLine_eq]; omega)) _ _ _⟩
  | @tup a ns hn h =>
    obtain rfl := r
    obtain ⟨_, its, rv, o, h1, h2, n, h3⟩ := (show ObjOk X.prog X.w H s.heap a (.tup (ns.map V.int)) from I.hok a _ h)
    refine ⟨[a], fun b hb => ?_, ?_⟩
    · rw [List.mem_singleton.mp hb]
      exact ⟨_, h, fun xs _ z => nomatch z⟩
    · simp only [PyData.shown]
      exact ReprK.tuple h1 h2 h3 (fun z => nomatch z) (ints_reprAll ns _ (by rcases hn with rfl | rfl <;> decide) rv)
  | @lst a h =>
    obtain rfl := r
    obtain ⟨_, its, n, rv, h1⟩ := (show ObjOk X.prog X.w H s.heap a (.lst [.int 3]) from I.hok a _ h)
    refine ⟨[a], fun b hb => ?_, ?_⟩
    · rw [List.mem_singleton.mp hb]
      exact ⟨_, h, fun xs hx z => by injection z with z; subst z; exact absurd hx (by decide)⟩
    · have ra := ints_reprAll (h₀ := s.heap) (P := X.prog) (w := X.w) [3] its (by decide) rv
      cases rv with
      | cons r1 r2 =>
        simp only [PyData.shown]
        exact ReprK.list h1 rfl rfl (fun z => nomatch z) (by simpa using ra.length_eq) (fun i y e => ra.item i y (by simpa using e))
  | @dct a h =>
    obtain rfl := r
    obtain ⟨_, hs, vs, kv, o, es, ep, h1, h2, h3, h4⟩ := (show ObjOk X.prog X.w H s.heap a (.dK []) from I.hok a _ h)
    refine ⟨[a], fun b hb => ?_, ?_⟩
    · rw [List.mem_singleton.mp hb]
      exact ⟨_, h, fun xs _ z => nomatch z⟩
    · simp only [PyData.shown]
      have e0 : es.toList = [] := by
        cases kv
        obtain ⟨_, hp, _⟩ := h4
        cases hes : es.toList with
        | nil => rfl
        | cons x l =>
          rw [hes] at hp
          cases hp
      exact ReprK.dict h1 h2.1 h3 hs (fun z => nomatch z) (by rw [e0]; simp only [PyData.shownKv]; exact .nil)
theorem AnyAll.reprK (I : Inv X pins σ H s) : ∀ {vs : List V} {ds : List PyData} {us : List Value}, AnyAll H vs ds → Vals vs us →
    ∃ bs, (∀ b ∈ bs, ∃ o, H b = some o ∧ ∀ xs : List V, 2 ≤ xs.length → o ≠ .lst xs) ∧ ReprAllK X.prog X.w bs s.heap 1 us (PyData.shownAll ds)
  | _, _, _, .nil, .nil => ⟨[], (fun _ z => nomatch z), by simp only [PyData.shownAll]; exact .nil⟩
  | _, _, _, .cons h t, .cons r rs => by
    obtain ⟨b1, n1, k1⟩ := h.reprK I r
    obtain ⟨b2, n2, k2⟩ := AnyAll.reprK I t rs
    refine ⟨b1 ++ b2, fun b hb => ?_, ?_⟩
    · rcases List.mem_append.mp hb with z | z
      · exact n1 b z
      · exact n2 b z
    · simp only [PyData.shownAll]
      exact .cons (k1.more fun b z => List.mem_append_left _ z) (k2.more_le (fun b z => List.mem_append_right _ z) (Nat.le_refl _))
/-- repr(xs), xs a list of two or more of them -/
theorem call_reprL (hg : X.A.guards = some []) (hu : X.A.units + 64 < cLine) : CallR X (.builtin "repr") (fun xs H Q => ∃ (p : Addr) (vs : List V) (ds : List PyData), xs = [.ref p] ∧ H p = some (.lst vs) ∧ AnyAll H vs ds ∧ 2 ≤ vs.length ∧ ds.length ≤ 100 ∧
    Q (.str (PyData.list ds).shown) H) := by
  intro pins s σ H xs us Q I r h
  obtain ⟨p, vs, ds, rfl, hp, ha, h2, h1, q⟩ := h
  obtain ⟨u, rfl, r1⟩ := vals1 r
  obtain rfl := r1
  obtain ⟨_, its, n, rv, ho⟩ := (show ObjOk X.prog X.w H s.heap p (.lst vs) from I.hok p _ hp)
  obtain ⟨bs, nb, hk⟩ := ha.reprK I rv
  have hz := listText_most ha h1
  have np : p ∉ bs := fun z => by
    obtain ⟨o, e, no⟩ := nb p z
    rw [hp] at e
    exact no vs h2 (Option.some.inj e).symm
  have hlen := rv.length
  cases its with
  | nil => rw [hlen] at h2; exact absurd h2 (by decide)
  | cons x l =>
    refine call_repr_slot (T := "list") (idr := "list.__repr__") (by omega) ⟨_, ho, rfl⟩ PySem.F.slot_list_repr.toG ?_
    refine call_list_reprK (A := X.A.in1) (g := []) (as := bs) (d := 1) (ts := PyData.shownAll ds) ho rfl rfl np (by simpa using hk.length_eq) (fun i y e => hk.item i y (by simpa using e)) hg (fun b _ => Clear.nil b) (by show X.A.units + 1 + 2 < _; omega) (fun _ _ e => e) (fun h' u tk kp => ?_) hz
    exact ⟨_, _, rfl, .str (PyData.list ds).shown, H, I.kept (t' := tk) kp, ⟨u, by simp only [PyData.shown]⟩, q⟩
end
end XV

set_option Elab.async false
set_option linter.all false
set_option maxRecDepth 100000
set_option maxHeartbeats 4000000
/-! an own error without fields, made to be raised -/
namespace XV
open PySem PySem.Spec PyProof.Rows L2
/-- C(), H0: the heap at the def's entry -/
def tMk0 (H0 : Hp) (C : Addr) (sp : Sp) : L2.St → Hp → XK → Prop := fun σ H Q => ∀ a, H a = none → H0 a = none ∧ sp [.ref a] (upd H a (exo a C none)) (fun v H2 => v = .non ∧ ∃ b, V.ref a = .ref b ∧ H2 b = some (exo b C none) ∧ H0 b = none ∧ Q (.ref C) none (delH H2 b)) (fun _ _ _ => False)
section
variable {X : Cx} {CX : CXT} {k : Nat} {C fI : Addr} {fd : FuncData} {ps : List Str} {sp : Sp} {x : Str} {p pos : Pos}
theorem pmk_oex0 (D : ErrC X.K C fI) (F : FnOk X.prog X.w X.K X.mg X.base CX k fI fd ps sp) (hr : Room (k + 1) X.A) (hb : KBn X.K fd ps 1 [] (fun us _ => us) (fun vs _ => vs)) (hx : Passes CX X (fun _ _ _ => False)) (hex : X.ex = [])
    (hg : Gl X x) (hm : X.mg x = some (.ref C)) (hdb : (x == ("__debug__" : Str)) = false := by decide) : PMk X (.Call (.Name x p) [] [] pos) (tMk0 X.H_0 C sp) := by
  intro pins s σ H Q I h
  refine wpAny_Call_Name_kw (ld_glob I hg hm (PySem.W.callWith_K0 I.kIn D.T.kC ?_) hdb)
  refine wpAny_mono (run_err (us := []) (vs := []) (ws := []) (zs := []) (n := 0) (Q := fun v H2 => ∃ b, v = .ref b ∧ H2 b = some (exo b C none) ∧ X.H_0 b = none ∧ Q (.ref C) none (delH H2 b)) D F hr hb hx I .nil .nil rfl rfl (Nat.zero_le _) (fun a na => (h a na).2)) (fun u s1 q => ?_) fun _ _ e => e
  obtain ⟨v, H2, I2, rv, a, rfl, ha, na, q⟩ := q
  cases (show u = Value.ref a from rv)
  obtain ⟨t1, ho⟩ := exo_at I2.hok ha
  obtain ⟨G, gs, ga, J⟩ := I2.untrack ha (fr0_none na) hex
  exact ⟨a, _, _, { s1 with heap := G }, delH H2 a, .ref C, none, rfl, J, gs, ga, ho, ⟨rfl, rfl⟩, rfl, rfl, delH_same, rfl, I2.bare, raises_own D.T.exC D.T.tyC, q⟩
end
end XV

set_option Elab.async false
set_option linter.all false
set_option maxRecDepth 100000
set_option maxHeartbeats 4000000
/-! a lambda handed to a def that calls it in a try with several clauses 'except C as e' -/
namespace XV
open PySem PySem.Spec PyProof.Rows L2 LamX
section
variable {X : Cx} {pins : List (Addr × Obj)} {σ : L2.St} {H : Hp} {s : Shared}
/-- x(), in the def that got the lambda; what that def wishes of an error may look at its own slots -/
theorem pe_actS {CXg : CXT} {Eg : XK} {Ng : List Str} {qg : Str} {sg : Scope} {g f c' : Addr} {cdg pm ctv : Value} {pa : Arguments} {bd : Expr} {sc : Scope} {k i : Nat} {a : Str} {pn : List (Addr × Obj)} {xe : Value → Shared → Prop} {W : WX} {tb : XK → TE} {p1 p2 : Pos}
    (I : Inv X pins σ H s) (L : LamS X.env.scope sc) (hf : s.heap.get? f = some (PySem.W.kla_obj "<lambda>" (X.env.qual ++ "<lambda>") pa bd sc (cloFrom X.env.cells sc.names []) pm c' ctv)) (hfn : H f = none) (hfr : f ∉ frs X.stack)
    (hbi : bindArgs (PySem.W.kla_fn "<lambda>" (X.env.qual ++ "<lambda>") pa bd sc (cloFrom X.env.cells sc.names []) pm (.ref c') ctv) ⟨[], []⟩ = pure [])
    (tk : Takes ((cxOf CXg X.prog X.w X.K X.mg X.base Ng qg sg g cdg X.A X.stack s H Eg).tr pn xe) W) (hr : Room (k + 1) (X.A.deeper (envOfC qg sg s.heap.objs.size g cdg)))
    (hbo : ∀ (A : Around) (outer : List Env) (s : Shared) (H : Hp) (E : XK), Room k (A.deeper (lamEnv X sc s.heap.objs.size f c')) → PE (lamCx X A outer s H E sc f c') bd (tb E))
    (hN : Ng[i]? = some a) (hv : Vis sg a) (hd : (a == ("__debug__" : Str)) = false := by decide) (hcd : (a == ("__classdict__" : Str)) = false := by decide) :
    PE ((cxOf CXg X.prog X.w X.K X.mg X.base Ng qg sg g cdg X.A X.stack s H Eg).tr pn xe) (.Call (.Name a p1) [] [] p2)
      (fun σZ HZ Q => σZ[i]? = some (some (.ref f)) ∧ HZ c' = some (CodeO c' (X.env.qual ++ "<lambda>")) ∧ tb (WE W σZ) σ HZ Q) := by
  refine ⟨fun pinsZ sZ σZ HZ Q IZ ⟨hs, hc, ht⟩ => wpAny_Call_Name_kw (thn ((pe_var (pos := p1) (i := i) hN hv hd hcd).run pinsZ sZ σZ HZ (fun v H1 => v = .ref f ∧ H1 = HZ) IZ ⟨.ref f, hs, rfl, rfl⟩) fun u s1 ⟨v, H1, I1, r1, ev, eH⟩ => ?_)⟩
  subst ev; rw [eH] at I1; obtain rfl : u = Value.ref f := r1
  have fo : s1.heap.get? f = some (PySem.W.kla_obj "<lambda>" (X.env.qual ++ "<lambda>") pa bd sc (cloFrom X.env.cells sc.names []) pm c' ctv) := I1.base.keep f _ hf hfn hfr (fun z => nomatch (show f ∈ ([] : List Addr) from z))
  have un : Un (frs X.stack) [] H HZ s.heap s1.heap := I1.base
  obtain ⟨⟨oc, vs, t, hoc, hdc, hvc⟩, _, _⟩ := I1.hok c' _ hc
  refine PySem.W.callWith_F0 ⟨_, _, _, _, fo⟩ (wpAny_call (codeAny_mono (PySem.W.kla_callFunE (R := CR (L2.CX X.prog X.w) (envOfC qg sg s.heap.objs.size g cdg :: X.stack) X.prog X.w HZ s1 Q (WE W σZ)) hr.depth fo rfl L.co L.gen rfl ⟨c', oc, vs, t, rfl, hoc, hdc, hvc⟩ ?_) fun r s' hq => ?_))
  · refine (show ∀ m : Sem (List (Str × Value)), m = pure [] → ∀ {M : Model} {B : Around} {P : List (Str × Value) → Shared → Prop} {E : Value → Shared → Prop} {z : Shared}, P [] z → wpAny M B m P E z from fun m e _ _ _ _ _ h => by rw [e]; exact wpAny_pure h) _ hbi ?_
    refine (wpAny_newFunctionEnv (fun y hy => (L.own y hy).2) (fun y hy => absurd hy (by simp)) (fun h₁ hns hsb => ⟨I1.nolimit.fresh _ hsb, PySem.W.kla_codeExpr ?_⟩) L.kind)
    have kp : ∀ b o, s1.heap.get? b = some o → h₁.get? b = some o := fun b o e => hsb.extBut b o (Nat.ne_of_lt (Heap.lt_size e)) (Heap.get?_push_of_some _ e)
    have J : Inv (lamCx X (X.A.deeper (envOfC qg sg s.heap.objs.size g cdg)) (envOfC qg sg s.heap.objs.size g cdg :: X.stack) s1 HZ (WE W σZ) sc f c') [] σ HZ { s1 with heap := h₁, toks := s1.toks + ([] : List (Str × Value)).length } := lam_start2 I L I1.env0 hr.hd un hns kp
    refine wpAny_mono ((hbo _ _ s1 HZ _ (hr.deeper _)).run [] _ _ HZ Q J ht) (fun v s' ⟨w', H', J', rv, q⟩ => ?_) fun e s' hq => hq
    exact ⟨w', H', J'.os, J'.bare, J'.base, J'.hok, rv, q⟩
  · cases r with
    | error e => exact passAt tk σZ pinsZ HZ s1 e s' I1 hq
    | ok fl => cases fl with
      | ret u => exact I1.after hq
      | next => exact hq.elim
      | brk => exact hq.elim
      | cont => exact hq.elim
end
/-- as GivesTo: the wish of an error may look at the def's own slots -/
def GivesS (X : Cx) (Ng : List Str) (x : Str) (sg : Scope) (g : Addr) (cdg : Value) (bg : List Stmt) (a : Str) (q : Str) (TT : (XK → Hp → VK → Prop) → Hp → VK → Prop) : Prop :=
  ∀ (f c' : Addr) (s : Shared) (H : Hp) (Q : VK) (tl : XK → Hp → VK → Prop),
    (∀ (W : WX) (pn : List (Addr × Obj)) (xe : Value → Shared → Prop) (p1 p2 : Pos), Takes ((cxOf C8.CX0 X.prog X.w X.K X.mg X.base Ng x sg g cdg X.A X.stack s H C8.E0).tr pn xe) W →
      PE ((cxOf C8.CX0 X.prog X.w X.K X.mg X.base Ng x sg g cdg X.A X.stack s H C8.E0).tr pn xe) (.Call (.Name a p1) [] [] p2) (fun σZ HZ Q => σZ[0]? = some (some (.ref f)) ∧ HZ c' = some (CodeO c' q) ∧ tl (WE W σZ) HZ Q)) →
    H c' = some (CodeO c' q) → TT tl H Q →
    ∃ t, PSs (cxOf C8.CX0 X.prog X.w X.K X.mg X.base Ng x sg g cdg X.A X.stack s H C8.E0).nox bg t ∧ t { nx := fun _ H' => Q .non H', rt := Q } (L2.start Ng [.ref f]) H
section
variable {X : Cx}
/-- x(lambda: body) -/
theorem pe_lamcallS {T : List (Addr × Str)} {TT : (XK → Hp → VK → Prop) → Hp → VK → Prop} {x a : Str} {g c P : Addr} {k : Nat} {st : Stmt} {fd : FuncData} {Ng : List Str}
    {pa : Arguments} {bd : Expr} {sc : Scope} {t : XK → TE} {p lpos pos : Pos} (F : L2.Fun X.K x x st g fd) (hg : Gl X x) (hm : X.mg x = some (.ref g)) (hb : L2.Binds X.K fd [a] []) (Sg : FnScope Ng [a] (defScope st)) (hNg : Ng[0]? = some a) (hva : Vis (defScope st) a)
    (hG : ∀ cdv, GivesS X Ng x (defScope st) g cdv (defBody st) a (X.env.qual ++ "<lambda>") TT)
    (TB : TabB X.base X.mg c P) (hcode : X.env.code = .ref c) (hmT : (P, X.env.qual ++ "<lambda>") ∈ T) (hu : ∀ p ∈ T, p.1 = P → p.2 = X.env.qual ++ "<lambda>") (hr : Room (k + 2) X.A) (L : LamS X.env.scope sc) (hdef : defaultsOf pa X.env = ([], []))
    (hbi : ∀ (q : Str) (cl : List (Str × Addr)) (pm cv ctv : Value), bindArgs (PySem.W.kla_fn "<lambda>" q pa bd sc cl pm cv ctv) ⟨[], []⟩ = pure [])
    (hbo : ∀ (A : Around) (outer : List Env) (s : Shared) (H : Hp) (E : XK) (f c' : Addr), Room k (A.deeper (lamEnv X sc s.heap.objs.size f c')) → PE (lamCx X A outer s H E sc f c') bd (t E))
    (hdb : (x == ("__debug__" : Str)) = false := by decide) (hd : (a == ("__debug__" : Str)) = false := by decide) (hcd : (a == ("__classdict__" : Str)) = false := by decide) :
    PE X (.Call (.Name x p) [.Lambda pa bd sc lpos] [] pos) (tLam T TT t) := by
  obtain ⟨oc, od, kV, doc, pm, an, cdv, ct, osl, rfl, lk, hcg⟩ := F.ex
  refine ⟨fun pins s σ H Q I ⟨hT, h⟩ => wpAny_Call_Name_kw (ld_glob I hg hm (PySem.W.callWith_K (h₀ := X.base) I.ok.mod.kin F.kp ?_ (by rfl) (by rfl)) hdb)⟩
  show wpAny _ _ (spliced ((false, eval (.Lambda pa bd sc lpos) X.env) :: backTo pos (starEach [] X.env))) _ _ s
  refine Calls.spliced_cons (lam_make2 I TB hcode hmT hu hT hdef (L.has I.ok) fun f c' pm' ctv H1 s' I1 eN T1 hf hfn hfr hco => Calls.spliced_nil ⟨I1.kIn, ?_⟩)
  have rc : codeAny (model X.prog X.w) X.A (.call (.ref g) ⟨[.ref f], []⟩) (CR C8.CX0 X.stack X.prog X.w H1 s' Q C8.E0) s' :=
    run_ofS (N := Ng) (ps := [a]) (us := [.ref f]) (vs := [.ref f]) lk hcg Sg hr I1.env0 (hb s' [.ref f] I1.kIn rfl) (.cons rfl .nil) rfl fun hr' => by
      obtain ⟨t', ht', hq'⟩ := hG cdv f c' s' H1 Q (fun E H' Q' => t E σ H' Q') (fun W pn xe p1 p2 tk => pe_actS (i := 0) I1 L hf hfn hfr (hbi _ _ _ _ _) tk hr' (fun A outer s H E hr2 => hbo A outer s H E f c' hr2) hNg hva hd hcd) hco (h H1 eN T1)
      exact ⟨t', ht'.nox, hq'⟩
  refine wpAny_call (codeAny_mono rc fun r s2 hq => ?_)
  cases r with
  | error e => exact hq.elim
  | ok fl => cases fl with
    | ret u => exact I1.after hq
    | next => exact hq.elim
    | brk => exact hq.elim
    | cont => exact hq.elim
end
/-! ### several clauses, each 'as n' -/
/-- what the clauses wish, one after the other: slot i is n's -/
def wManyAs (K : PySem.W.Frag) (i : Nat) (Wout : WX) (D : Ends) : List (Value × (Addr → Value → Option Addr → TS)) → WX
  | [] => Wout
  | (c, ts) :: r => wAs K c i ts (wManyAs K i Wout D r) D
inductive HdsAs (X : Cx) (n : Str) : List ExceptHandler → List (Value × (Addr → Value → Option Addr → TS)) → Prop
  | nil : HdsAs X n [] []
  | cons {x : Str} {c : Value} {ts : Addr → Value → Option Addr → TS} {b₀ : Stmt} {su : List Stmt} {np p' : Pos} {hds : List ExceptHandler} {l : List (Value × (Addr → Value → Option Addr → TS))} (hc : Names X x c)
      (hsu : ∀ (a : Addr) (oe : Obj) (cls : Value) (d : Option Addr) (pn : List (Addr × Obj)), Zc cls d oe → (∃ vs, oe.data = .fields vs) → PSs (X.suite a ((a, oe) :: pn)) (b₀ :: su) (ts a cls d)) (r : HdsAs X n hds l) :
      HdsAs X n (.ExceptHandler (some (.Name x np)) (some n) (b₀ :: su) p' :: hds) ((c, ts) :: l)
section
variable {X : Cx} {body : List Stmt} {h₀ : ExceptHandler} {hds : List ExceptHandler} {l : List (Value × (Addr → Value → Option Addr → TS))} {pos : Pos} {tb : WX → TS} {Wout : WX} {n : Str} {i : Nat}
theorem ps_try_manyAs (hs : X.stack = X.env :: X.outer) (hf : X.env.frame = some X.env.locals) (hN : X.N.Nodup) (hi : X.N[i]? = some n) (hln : X.env.kindOf n = some .local) (tk : Takes X Wout)
    (hb : ∀ (W : WX) (pn : List (Addr × Obj)) (xe : Value → Shared → Prop), Takes (X.tr pn xe) W → PassesOwn (model X.prog X.w) X.A X.env xe → PSs (X.tr pn xe) body (tb W))
    (hh : HdsAs X n (h₀ :: hds) l) : PS X (.Try body (h₀ :: hds) [] [] pos) (fun D σ H => tb (wManyAs X.K i Wout D l) D σ H) := by
  refine ⟨fun pins s σ H D I h => wpAny_Try_except ?_⟩
  have ok := I.ok
  have hfr : X.A.frames = some (X.env :: X.outer) := ok.frames.trans (by rw [hs])
  refine wpAny_mono ((hb (wManyAs X.K i Wout D l) (X.pn ++ pins) (fun e z₁ => wpAny (model X.prog X.w) X.A (noteFrame e X.env) (fun _ z₂ => wpAny (model X.prog X.w) X.A (setFlight e none) (fun _ z₃ =>
    wpAny (model X.prog X.w) X.A (handleBy e X.env (h₀ :: hds)) (SP X pins D) X.xe z₃) X.xe z₂) X.xe z₁) (fun u s' xx => ?_) PassesOwn.looking).run [] s σ H D (I.toTry _) h) (fun f z1 hsp => ?_) (fun _ _ he => he)
  · obtain ⟨a, B, sI, pins', σ', H', cls, d, rfl, J', nb, up, sky, na, os, ag, w⟩ := xx
    have J : Inv X pins σ' H' sI := J'.ofTry ok
    refine Sky.land Zc.steady hfr hf (show Sky B (X.env :: X.outer) a (Zc cls d) X.env.locals s'.heap by rw [← hs]; exact sky) fun h3 fl3 up3 => ?_
    have J3 : Inv X pins σ' H' { s' with heap := h3 } := J.landed nb fl3.1 (up.trans up3) os ag
    obtain ⟨oe3, vs3, he3, hz3, hd3⟩ := fl3.there
    have nfr : a ∉ frs (X.env :: X.outer) := fun hm => by
      obtain ⟨_, o', e', hnf⟩ := fl3.2.2.1.mem hm
      rw [he3] at e'; cases e'
      exact hnf _ hd3
    have nL : a ≠ X.env.locals := fun z => nfr (List.mem_filterMap.mpr ⟨X.env, List.mem_cons_self, by rw [hf, z]⟩)
    have nF : a ∉ X.fs := fun hm => by
      obtain ⟨e, he, q⟩ := List.mem_filterMap.mp hm
      exact nfr (List.mem_filterMap.mpr ⟨e, List.mem_cons_of_mem _ he, q⟩)
    have S3 := J3.suite he3 hd3 na nL nF
    have go : ∀ {hs' : List ExceptHandler} {l' : List (Value × (Addr → Value → Option Addr → TS))}, HdsAs X n hs' l' → wManyAs X.K i Wout D l' cls d σ' H' →
        wpAny (model X.prog X.w) X.A (handleBy (.ref a) X.env hs') (SP X pins D) X.xe { s' with heap := h3 } := by
      intro hs' l' hk
      induction hk with
      | nil =>
        intro w
        obtain ⟨k1, k2, k3, oe, vs, T, oT, ts', he, hz, hd, h1, hr⟩ := id fl3
        refine wpAny_handleBy_nil ?_
        unfold PySem.passOn
        refine wpAny_bind (wpAny_field he hd h1 ?_)
        have nt : ¬ ((Value.ref T == Value.none) = true) := by simp
        rw [if_neg nt]
        have fin : wpAny (model X.prog X.w) X.A (setFlight (.ref a) X.env.frame) (fun _ z4 => wpAny (model X.prog X.w) X.A (throw (.ref a) : Sem Flow) (SP X pins D) X.xe z4) X.xe { s' with heap := h3 } := by
          rw [hf]
          exact HandSPX.setFlight_upZ fl3 fun h4 hh4 up4 => wpAny_throw (tk _ _ ⟨a, B, sI, pins, σ', H', cls, d, rfl, J, nb, (up.trans up3).trans up4, .inr (.inr (by rw [hs]; exact hh4)), na, os, ag, w⟩)
        first | exact wpAny_bind (wpAny_pure (wpAny_bind fin)) | exact wpAny_bind fin
      | @cons x c ts b₀ su np p' hds2 l2 hc hsu r ih =>
        intro ⟨b, hb1, hyes, hno⟩
        refine wpAny_handleBy_cons (codeAny_handlers_test ?_) (by intro q; cases q)
        have LT : PySem.W.Looks (model X.prog X.w) h3 (typeOf (.ref a)) cls := fun A Q E z k q => wpAny_typeOf_ref (k _ _ he3) (by rw [hz3.1]; exact q)
        have LM := PySem.W.exm_one (M := model X.prog X.w) (J3.kIn) LT hb1
        have test : ∀ {Q : Value → Shared → Prop} {E : Value → Shared → Prop}, Q c { s' with heap := h3 } → wpAny (model X.prog X.w) (X.A.mark (some (.ref a))) (eval (.Name x np) X.env) Q E { s' with heap := h3 } := fun {Q E} q =>
          match hc with
          | ⟨hg, hdbg, .inl hm⟩ => ld_glob (X := X.suite a ((a, oe3) :: (X.pn ++ pins))) S3 hg hm q hdbg
          | ⟨hg, hdbg, .inr ⟨hm, hv, hnn⟩⟩ => ld_blt (X := X.suite a ((a, oe3) :: (X.pn ++ pins))) S3 hg hm hv q hnn hdbg
        refine test (LM.here ?_)
        cases b with
        | true =>
          refine codeAny_handlers_suite_as (HandSPX.lands_againZ fl3 fun h4 fl4 up4 => ?_)
          have J4 : Inv X pins σ' H' { s' with heap := h4 } := J.landed nb fl4.1 ((up.trans up3).trans up4) os ag
          obtain ⟨oe4, vs4, he4, hz4, hd4⟩ := fl4.there
          have S4 := J4.suite he4 hd4 na nL nF
          refine store_ok (X := X.suite a ((a, oe4) :: (X.pn ++ pins))) (v := .ref a) S4 hN hi (.inl hln) rfl (fun s5 S5 => ?_) (.inr hln)
          refine wpAny_mono ((hsu a oe4 cls d (X.pn ++ pins) hz4 ⟨_, hd4⟩).run [] s5 _ H' _ S5 (hyes rfl a na)) (fun f s6 hsp => ?_) (fun _ _ z => False.elim z)
          have gone : ∀ {σ6 : L2.St} {H6 : Hp} {Q : Shared → Prop}, Inv (X.suite a ((a, oe4) :: (X.pn ++ pins))) [] σ6 H6 s6 → (∀ s7, Inv X pins (σ6.set i none) H6 s7 → Q s7) →
              wpAny (model X.prog X.w) X.A (do bindName X.env n .none; unbindBehindTheSuite X.env n p') (fun _ s7 => Q s7) X.xe s6 := fun {σ6 H6 Q} S6 hq => gone_ok (S6.unsuite ok) hN hi hln hq
          cases f with
          | next => obtain ⟨σ6, H6, S6, q6⟩ := hsp; exact gone S6 fun _ J7 => ⟨_, _, J7, q6⟩
          | brk => obtain ⟨σ6, H6, S6, q6⟩ := hsp; exact gone S6 fun _ J7 => ⟨_, _, J7, q6⟩
          | cont => obtain ⟨σ6, H6, S6, q6⟩ := hsp; exact gone S6 fun _ J7 => ⟨_, _, J7, q6⟩
          | ret u => obtain ⟨v6, σ6, H6, S6, r6, q6⟩ := hsp; exact gone S6 fun _ J7 => ⟨_, _, _, J7, r6, q6⟩
        | false => exact ih (hno rfl)
    exact go hh w
  · cases f with
    | next => obtain ⟨σ', H', J', q⟩ := hsp; exact wpAny_execs_nil ⟨σ', H', J'.ofTry ok, q⟩
    | brk => obtain ⟨σ', H', J', q⟩ := hsp; exact ⟨σ', H', J'.ofTry ok, q⟩
    | cont => obtain ⟨σ', H', J', q⟩ := hsp; exact ⟨σ', H', J'.ofTry ok, q⟩
    | ret u => obtain ⟨v, σ', H', J', r, q⟩ := hsp; exact ⟨v, σ', H', J'.ofTry ok, r, q⟩
end
/-! ### isinstance of the caught error -/
/-- isinstance(e, c), e the exception that the suite holds, with or without a dict of its own -/
def rIsZ (K : PySem.W.Frag) (a : Addr) (cls : Value) (d : Option Addr) : List V → Hp → VK → Prop := fun xs H Q => ∃ (D : Addr) (c : V) (cv : Value) (b : Bool), xs = [.ref a, c] ∧ cls = .ref D ∧ ErrR K D ∧ (d = none ∨ ∃ dd fs, d = some dd ∧ H dd = some (.xd fs)) ∧ ClsV c cv ∧ PySem.W.kitOne K (.ref D) cv = some b ∧ Q (.bl b) H
theorem call_isZ {X : Cx} {a : Addr} {oe : Obj} {cls : Value} {d : Option Addr} {pn : List (Addr × Obj)} (hz : Zc cls d oe) (hf : ∃ vs, oe.data = .fields vs) : CallR (X.suite a ((a, oe) :: pn)) (.builtin "isinstance") (rIsZ X.K a cls d) := by
  intro pins s σ H xs us Q I r h
  obtain ⟨D, c, cv, b, rfl, rfl, R, hdd, hc, e, q⟩ := h
  obtain ⟨u1, u2, rfl, r1, r2⟩ := vals2 r
  obtain rfl : u1 = Value.ref a := r1
  have e2 := hc.eq r2
  subst e2
  obtain ⟨hget, _⟩ := I.pin (a, oe) (List.mem_append.mpr (.inl List.mem_cons_self))
  obtain ⟨vs, hv⟩ := hf
  have J : ∃ od, PySem.W.InstAt s.heap a oe D od := by
    rcases hdd with rfl | ⟨dd, fs, rfl, hd⟩
    · exact ⟨none, hget, hz.1, by unfold PySem.W.notCls; rw [hv] <;> rfl, by rw [hz.2]; trivial⟩
    · obtain ⟨mA, hns, _⟩ := (show ObjOk X.prog X.w H s.heap dd (.xd fs) from I.hok dd _ hd)
      obtain ⟨od, ho, _⟩ := lookIn_ns hns
      exact ⟨some od, hget, hz.1, by unfold PySem.W.notCls; rw [hv] <;> rfl, by rw [hz.2]; exact ho⟩
  obtain ⟨od, J⟩ := J
  exact PySem.W.kia_one (PySem.W.kitx_exc R.cl R.ga R.gt R.sb R.ca R.cg R.ct R.mo) I.kIn J e (fun z => nomatch z) fun tk => ⟨.bl b, H, I.kept (t' := tk) fun _ _ z => z, rfl, q⟩
end XV

set_option Elab.async false
set_option linter.all false
set_option maxRecDepth 100000
set_option maxHeartbeats 4000000
/-! the end of a law whose defs make lambdas; such a def -/
namespace XV
open PySem PySem.Spec PyProof.Rows L2 LamX
/-- what the head leaves of the defs' tables -/
def TabFact (q : Program) (K : PySem.W.Frag) (h : Heap) : Prop := ∀ (c P : Addr) (y : Str), ((recsOf q).find? fun r => r.name == y).isSome = true → PySem.W.tabIn K y = some (c, P) →
  PySem.W.CodeHd h c P ∧ h.get? P = some { cls := .none, data := .fields #[] }
theorem walk_ofTab {l : PySem.W.OpenLaw} {n k : Nat} {q : Program} {loose : List Str} {XP : (Str → Option Value) → Heap → Prop} {YP : World → Heap → Prop} {d : DefRec} {K : Params → PySem.W.Frag} {CX : World → CXT} {x : Str}
    (hn : l.most = some n) (hz : n ≤ sizeLine) (hdf : d.params.defaults = []) (hr : Room k callerA) (hY : ∀ (w : World) (h : Heap), YP w h → (K w.params).In h)
    (F : ∀ (w : World) (mg : Str → Option Value) (fa : Addr) (h : Heap), TabFact q (K w.params) h → YP w h → (K w.params).In h → h.Ns mainGlobals mg → mg d.name = some (.ref fa) → LawAtS l w (K w.params) (CX w) k n x mg fa h)
    (hCX : ∀ (w : World) (H : Hp) (s : Shared) (e : Value) (s' : Shared), CX w [] H s (fun _ _ _ => False) e s' → False) :
    PySem.W.WalkO q loose XP YP l.row.toRowW d [] (fun f vs => PySem.call f vs) :=
  Att.attach_callB hn hdf fun w z₀ z₁ mg mb fa o pm cd doc a vs ns G Y ho hd hcd hmg hobj hints hlen hbits hg => by
    have KX := hY w _ Y
    have TF : TabFact q (K w.params) z₁.heap := fun c P y hy ht => by
      obtain ⟨e, he⟩ := Option.isSome_iff_exists.mp hy
      exact PySem.W.tab_of G.T KX he ht
    obtain ⟨fd, cs, sp, hT, nT, C, hb, hsp, hF⟩ := F w mg fa _ TF Y KX G.T.g hmg
    exact law_callTs KX G.T.g G.T.b G.T.builtins G.T.nolimit hg hT nT C G.T.bmain hobj hints (Nat.le_trans hlen hz) hr hF hb (fun H hH hS => hsp H a ns hlen hbits hH hS) fun H e s' => hCX w H z₁ e s'
theorem tab_mk {K : PySem.W.Frag} {x : Str} {f c P : Addr} {oc oc2 : Value} {od od2 : Option Addr} {fd : FuncData} {sl sl2 : Array (Option Value)} {vs : Array Value} (a : PySem.W.nsIn K mainGlobals x = some (some (.ref f))) (l : K.lookup f = some ⟨oc, od, .func fd, sl⟩)
    (hc : fd.code = .ref c) (e : K.lookup c = some ⟨oc2, od2, .fields vs, sl2⟩) (v : vs[11]? = some (.ref P)) : PySem.W.tabIn K x = some (c, P) := by
  unfold PySem.W.tabIn
  rw [a]
  simp only [l, hc, e, v]
/-- as Fun, its code object told -/
structure FunC (K : PySem.W.Frag) (x qual : Str) (st : Stmt) (f : Addr) (fd : FuncData) (c : Addr) : Prop where
  ex : ∃ (oc : Value) (od : Option Addr) (kV doc pm : Value) (an : Option Addr) (ct : Value) (osl : Array (Option Value)),
    fd = PySem.W.fnOf x qual (defArgs st) (defBody st) (defScope st) .none kV doc pm an (.ref c) ct ∧ K.lookup f = some ⟨oc, od, .func fd, osl⟩ ∧ PySem.W.codeIn K (.ref c) qual = true
  kp : PySem.W.keepIn K (.ref f) = true
theorem FunC.ok {P : Program} {w : World} {K : PySem.W.Frag} {mg : Str → Option Value} {base : Heap} {x qual : Str} {st : Stmt} {f c : Addr} {fd : FuncData} {N ps : List Str} {k : Nat} {sp : Sp} (F : FunC K x qual st f fd c) (S : FnScope N ps (defScope st)) (len : ∀ vs H Q E, sp vs H Q E → vs.length = ps.length)
    (hbo : ∀ (A : Around) (outer : List Env) (s : Shared) (H : Hp) (vs : List V) (Q : VK) (E : XK), Room k (A.deeper (envOfC qual (defScope st) s.heap.objs.size f (.ref c))) → sp vs H Q E →
      ∃ t, PSs (cxOf CX0 P w K mg base N qual (defScope st) f (.ref c) A outer s H E).nox (defBody st) t ∧ t { nx := fun _ H' => Q .non H', rt := Q } (start N vs) H) : FnOk P w K mg base CX0 (k + 1) f fd ps sp := by
  obtain ⟨oc, od, kV, doc, pm, an, ct, osl, rfl, lk, hcd⟩ := F.ex
  refine fn_of lk hcd S len fun A outer s H vs Q E hr hsp => ?_
  obtain ⟨t, h, q⟩ := hbo A outer s H vs Q E hr hsp
  exact ⟨t, h.nox, q⟩
theorem func_mk {K : PySem.W.Frag} {x qual : Str} {st : Stmt} {f c : Addr} {oc : Value} {od an : Option Addr} {osl : Array (Option Value)} {kV doc pm ct : Value} (l : K.lookup f = some ⟨oc, od, .func (PySem.W.fnOf x qual (defArgs st) (defBody st) (defScope st) .none kV doc pm an (.ref c) ct), osl⟩)
    (h : PySem.W.codeIn K (.ref c) qual = true) (k : PySem.W.keepIn K (.ref f) = true) : FunC K x qual st f (PySem.W.fnOf x qual (defArgs st) (defBody st) (defScope st) .none kV doc pm an (.ref c) ct) c := ⟨⟨oc, od, kV, doc, pm, an, ct, osl, rfl, l, h⟩, k⟩
theorem FunC.fn {K : PySem.W.Frag} {x qual : Str} {st : Stmt} {f c : Addr} {fd : FuncData} (F : FunC K x qual st f fd c) : L2.Fun K x qual st f fd := let ⟨oc, od, kV, doc, pm, an, ct, osl, h⟩ := F.ex; ⟨⟨oc, od, kV, doc, pm, an, _, ct, osl, h⟩, F.kp⟩
end XV

set_option Elab.async false
set_option linter.all false
set_option maxRecDepth 100000
set_option maxHeartbeats 4000000
/-! dict(enumerate(xs)); del d[k], d[l]; repr(True); a target that takes a list or a tuple -/
namespace XV
open PySem PySem.Spec PyProof.Rows L2
/-- the pairs of enumerate(xs) -/
def enumK (xs : List V) : List (Key × V) := xs.zipIdx.map fun q => (Sum.inl (q.2 : Int), q.1)
theorem enumK_at {xs : List V} {i : Nat} {v : V} (h : xs[i]? = some v) : (enumK xs)[i]? = some (Sum.inl (i : Int), v) := by
  unfold enumK
  rw [List.getElem?_map, List.getElem?_zipIdx, h]
  simp
theorem enumK_len (xs : List V) : (enumK xs).length = xs.length := by simp [enumK]
theorem kv_enum : ∀ {xs : List V} {us : List Value} (k : Nat), Vals xs us → KV ((xs.zipIdx k).map fun q => ((Sum.inl (q.2 : Int) : Key), q.1)) ((us.zipIdx k).map fun q => ((Sum.inl (q.2 : Int) : Key), q.1))
  | [], _, _, r => by cases r; exact .nil
  | x :: xs, _, k, r => by
    cases r with
    | cons r1 r2 =>
      rw [List.zipIdx_cons, List.zipIdx_cons, List.map_cons, List.map_cons]
      exact .cons ⟨rfl, r1⟩ (kv_enum (k + 1) r2)
section
variable {X : Cx} {e : Expr} {ta : TA} {td ty td2 ty2 : TE} {p p2 p3 pos tpos tpos2 : Pos} {o i o2 i2 : Expr}
/-- dict(enumerate(e)) -/
theorem pe_dictEnum (hc : X.calm = true) (hg : Gl X "dict") (hm : X.mg "dict" = none) (hg2 : Gl X "enumerate") (hm2 : X.mg "enumerate" = none) (ha : PA X [e] ta)
    (hs : starEach [.Call (.Name "enumerate" p2) [e] [] p3] X.env = (false, eval (.Call (.Name "enumerate" p2) [e] [] p3) X.env) :: starEach [] X.env := by rfl)
    (he : starEach [e] X.env = (false, eval e X.env) :: starEach [] X.env := by rfl) (hpl : (backTo p3 (starEach [] X.env)).any (·.1) = false := by rfl) :
    PE X (.Call (.Name "dict" p) [.Call (.Name "enumerate" p2) [e] [] p3] [] pos) (fun σ H Q => ta σ H fun vs H1 => ∃ (l : Addr) (xs : List V), vs = [.ref l] ∧ SqL X.K H1 l xs ∧ ∀ d, H1 d = none → Q (.ref d) (upd H1 d (.dK (mergeK [] (enumK xs))))) := by
  refine ⟨fun pins s σ H Q I hq => ?_⟩
  refine wpAny_Call_Name_kw (ld_blt I hg hm (u := .type "dict") (by decide +kernel) ?_ (by decide) (by decide))
  refine PyProof.Rows.callWith_type1 ?_ hs rfl
  rw [hs]
  show wpAny _ _ (spliced ((false, eval (.Call (.Name "enumerate" p2) [e] [] p3) X.env) :: backTo pos (starEach [] X.env))) _ _ s
  refine Calls.spliced_cons ?_
  refine wpAny_Call_Name_kw (ld_blt I hg2 hm2 (u := .type "enumerate") (by decide +kernel) ?_ (by decide) (by decide))
  refine PyProof.Rows.callWith_type1 (thn (ha.run p3 pins s σ H _ I hq) fun us s1 ⟨vs, H1, I1, r1, l, xs, ev, hl, q⟩ => ?_) he hpl
  subst ev
  rw [Vals.ref1 r1]
  obtain ⟨its, rv, pl, hz⟩ := I1.list hl
  have hL := pl.isList
  have hz' : its.length ≤ sizeLine := by rw [← Paired.length rv]; exact hz
  have lsz : l < s1.heap.objs.size := by
    obtain ⟨o, ho, _⟩ := hL
    exact Heap.lt_size ho
  refine call_enumerate_list hL (fun h' hE hIt hsz hk => Calls.spliced_nil ?_)
  have hL' : h'.IsList l its.toArray := hL.at fun o z => hk _ o z
  refine call_dict_pairs (knd := mixKind X.prog X.w) (kvs := (its.zipIdx 0).map fun q => ((Sum.inl (q.2 : Int) : Key), q.1)) (PairArg.enumerate (s1.heap.objs.size + 1) s1.heap.objs.size l (Nat.succ_ne_self _) (Nat.ne_of_lt (Nat.lt_succ_of_lt lsz)) (Nat.ne_of_lt lsz) its.toArray) (I1.ok.hd hc) ⟨⟨_, hE⟩, hIt, hL'⟩ ⟨by simp, fun j key v ⟨⟨t, e1⟩, e2⟩ => ?_⟩ (by simpa using hz') fun h2 tk hd k2 => ?_
  · refine ⟨Sum.inl (j : Int), ?_, ?_⟩
    · rw [List.getElem?_map, List.getElem?_zipIdx]
      have e3 : its[j]? = some v := by simpa using e2
      rw [e3]
      simp
    · subst e1
      show keyIs (Sum.inl (j : Int)) (.int (j : Int) t) = true
      exact kV_is (P := X.prog) (w := X.w) (k := Sum.inl (j : Int)) (show RelV (.int (j : Int)) _ from ⟨t, rfl⟩)
  · have a0 : s1.heap.objs.size ≤ h'.objs.size := by omega
    have kk : ∀ b o', s1.heap.get? b = some o' → h2.get? b = some o' := fun b o' z => k2 b o' (by
      have lb := Heap.lt_size z
      simp only [List.mem_cons, List.not_mem_nil, or_false]
      rintro (e | e)
      · rw [e] at lb; exact absurd lb (Nat.not_lt.mpr (Nat.le_succ _))
      · rw [e] at lb; exact absurd lb (Nat.lt_irrefl _)) (hk b o' z)
    have hm' : (h'.objs.size == sysModules) = false := beq_eq_false_iff_ne.mpr (Nat.ne_of_gt (Nat.lt_of_lt_of_le I1.big a0))
    have hlen : (mergeK [] (enumK xs)).length ≤ sizeLine := by
      refine Nat.le_trans (length_mergeK _ []) ?_
      rw [List.length_nil, Nat.zero_add, enumK_len]
      exact hz
    exact ⟨.ref h'.objs.size, _, I1.laid (t' := tk) (a := h'.objs.size) kk a0 (show ObjOk X.prog X.w _ _ _ (.dK (mergeK [] (enumK xs))) from ⟨hlen, hm', _, KV.merge (kv_enum 0 rv) .nil, hd⟩), rfl, q _ (I1.hok.fresh a0)⟩
/-- del o[i], o2[i2] -/
theorem ps_ddel2 (ho : PE X o td) (hi : PE X i ty) (ho2 : PE X o2 td2) (hi2 : PE X i2 ty2) : PS X (.Delete [.Subscript o i tpos, .Subscript o2 i2 tpos2] pos) (fun D σ H => sDDel td ty { D with nx := fun σ1 H1 => sDDel td2 ty2 D σ1 H1 } σ H) := by
  refine ⟨fun pins s σ H D I h => ?_⟩
  refine wpAny_Delete (wpAny_deleteEach_cons (wpAny_delete_Subscript (thn (ho.run pins s σ H _ I h) fun u s1 ⟨x, H1, I1, rx, q1⟩ => thn (hi.run pins s1 σ H1 _ I1 q1) fun iv s2 ⟨y, H2, I2, ry, a, kvs, k, ex, e, ey, l, q2⟩ => ?_)))
  subst ex ey
  obtain rfl : u = Value.ref a := rx
  refine d_delItem I2 e ry l fun s3 I3 => wpAny_deleteEach_cons (wpAny_delete_Subscript (thn (ho2.run pins s3 σ _ _ I3 q2) fun u s4 ⟨x, H4, I4, rx, q4⟩ => thn (hi2.run pins s4 σ H4 _ I4 q4) fun iv s5 ⟨y, H5, I5, ry, a, kvs, k, ex, e, ey, l, q5⟩ => ?_))
  subst ex ey
  obtain rfl : u = Value.ref a := rx
  exact d_delItem I5 e ry l fun s6 I6 => wpAny_deleteEach_nil ⟨σ, _, I6, q5⟩
theorem call_reprB : CallR X (.builtin "repr") (fun xs H Q => ∃ b : Bool, xs = [.bl b] ∧ Q (.str (if b then "True" else "False")) H) := by
  intro pins s σ H xs us Q I r h
  obtain ⟨b, rfl, q⟩ := h
  obtain ⟨u, rfl, rfl⟩ := vals1 r
  exact PySem.P.repr_of_bool ⟨.str _, H, I.tok _, ⟨_, rfl⟩, q⟩
end
/-- one target, two ways -/
theorem pg_or {X : Cx} {t : Expr} {g1 g2 : TG} (a : PG X t g1) (b : PG X t g2) : PG X t (fun v σ H Q => g1 v σ H Q ∨ g2 v σ H Q) :=
  ⟨fun pins s σ H v u Q I r h => h.elim (a.run pins s σ H v u Q I r) (b.run pins s σ H v u Q I r)⟩
end XV

set_option Elab.async false
set_option linter.all false
set_option maxRecDepth 100000
set_option maxHeartbeats 4000000
/-! dict(enumerate(t)), t a tuple -/
namespace PySem
open Sem (wp)
section
variable {prog : Program} {w : World} {A : Around} {E : Value → Shared → Prop} {s : Shared}
theorem enumT_item {e it l T : Addr} {i : Nat} {items : Array Value} {x old : Value} {f : Bool} {oT : Obj} {Q : Option Value → Shared → Prop}
    (he : IsEnumHeld s.heap e it i old T f) (hT : s.heap.get? T = some oT) (hTe : T ≠ e) (hTi : T ≠ it) (hit : s.heap.IsTupleIter it l i) (hl : s.heap.IsTuple l items) (hx : items[i]? = some x) (hne : e ≠ it)
    (hQ : ∀ h', IsEnumHeld h' e it ((i : Int) + 1) old T true → h'.IsTupleIter it l (i + 1) →
      h'.get? s.heap.objs.size = some { cls := .type "tuple", data := .seq #[.int i s.toks, x] } → h'.objs.size = s.heap.objs.size + 1 →
      (∀ b o, b ≠ e → b ≠ it → s.heap.get? b = some o → h'.get? b = some o) → Q (some (.ref s.heap.objs.size)) { s with heap := h', toks := s.toks + 1 }) :
    wpAny (model prog w) A (pyNext (.ref e)) Q E s := by
  have hTy : s.TypeIs (.ref e) "enumerate" := ⟨_, he, rfl⟩
  unfold pyNext
  refine wpAny_bind (wpAny_attempt (wpAny_callSpecial?_slot (name := Str.ofString "__next__") hTy F.slot_enumerate_next
    (wpAny_call_entry F.slot_enumerate_next hTy F.entry_enumerate_next ?_ (F.args_enumerate_next_1 _))))
  obtain ⟨hp, g, d, tk, os⟩ := s
  show wpAny _ _ (field (.ref e) 2 >>= _) _ _ _
  refine wpAny_bind (wpAny_field he rfl (x := .ref it) rfl ?_)
  refine wpAny_bind (wpAny_nextOf_tuple_item hit hl hx fun h₁ hit₁ hs₁ => ?_)
  have he₁ : IsEnumHeld h₁ e it i old T f := (hs₁.2 e hne).trans he
  show wpAny _ _ (field (.ref e) 3 >>= _) _ _ ⟨h₁, g, d, tk, os⟩
  refine wpAny_bind (wpAny_field he₁ rfl (x := rawInt i) rfl ?_)
  show wpAny _ _ (field (.ref e) 4 >>= _) _ _ ⟨h₁, g, d, tk, os⟩
  refine wpAny_bind (wpAny_field he₁ rfl (x := .none) rfl ?_)
  show wpAny _ _ (mkInt i >>= _) _ _ ⟨h₁, g, d, tk, os⟩
  refine wpAny_bind (wpAny_mkInt ?_)
  show wpAny _ _ (setField (.ref e) 3 (rawInt ((i : Int) + 1)) >>= _) _ _ ⟨h₁, g, d, tk + 1, os⟩
  refine wpAny_bind (wpAny_setField_rec he₁ (by simp) fun h₂ he₂ hs₂ => ?_)
  replace he₂ : IsEnumHeld h₂ e it ((i : Int) + 1) old T f := he₂
  show wpAny _ _ (setField (.ref e) 4 .none >>= _) _ _ ⟨h₂, g, d, tk + 1, os⟩
  refine wpAny_bind (wpAny_setField_rec he₂ (by simp) fun h₃ he₃ hs₃ => ?_)
  replace he₃ : IsEnumHeld h₃ e it ((i : Int) + 1) old T f := he₃
  show wpAny _ _ (newTuple [.int i tk, x] >>= _) _ _ ⟨h₃, g, d, tk + 1, os⟩
  refine wpAny_bind (wpAny_newTuple ?_)
  have z₃ : h₃.objs.size = hp.objs.size := by rw [hs₃.1, hs₂.1, hs₁.1]
  show wpAny _ _ _ _ _ ⟨h₃.push { cls := .type "tuple", data := .seq #[.int i tk, x] }, g, d, tk + 1, os⟩
  have he₄ : IsEnumHeld (h₃.push { cls := .type "tuple", data := .seq #[.int i tk, x] }) e it ((i : Int) + 1) old T f := Heap.get?_push_of_some _ he₃
  have ht₄ : (h₃.push { cls := .type "tuple", data := .seq #[.int i tk, x] }).get? hp.objs.size = some { cls := .type "tuple", data := .seq #[.int i tk, x] } := by rw [← z₃]; exact Heap.get?_push_size _ rfl
  have z₄ : (h₃.push { cls := .type "tuple", data := .seq #[.int i tk, x] }).objs.size = hp.objs.size + 1 := by rw [Heap.size_push, z₃]
  have k₄ : ∀ b o, b ≠ e → b ≠ it → hp.get? b = some o → (h₃.push { cls := .type "tuple", data := .seq #[.int i tk, x] }).get? b = some o := fun b o ne ni q =>
    Heap.get?_push_of_some _ (hs₃.extBut b o ne (hs₂.extBut b o ne (hs₁.extBut b o ni q)))
  have hit₄ : (h₃.push { cls := .type "tuple", data := .seq #[.int i tk, x] }).IsTupleIter it l (i + 1) := hit₁.at fun o q => Heap.get?_push_of_some _ (hs₃.extBut it o (Ne.symm hne) (hs₂.extBut it o (Ne.symm hne) q))
  have lt : e < hp.objs.size := Heap.lt_size he
  show wpAny _ _ (Builtin.SmallTypes.ownedTupleIsFree (.ref e) >>= _) _ _ ⟨_, g, d, tk + 1, os⟩
  rw [z₃]
  revert he₄ ht₄ z₄ k₄ hit₄
  generalize h₃.push { cls := .type "tuple", data := .seq #[.int i tk, x] } = h₄
  intro he₄ ht₄ z₄ k₄ hit₄
  refine wpAny_bind (wpAny_tupleHeld_enum (s := ⟨h₄, g, d, tk + 1, os⟩) he₄ (k₄ T oT hTe hTi hT) fun h₅ he₅ hs₅ => ?_)
  replace hs₅ : Heap.SameBut e h₄ h₅ := hs₅
  simp only [Bool.false_eq_true, if_false]
  refine wpAny_pure ⟨_, rfl, wpAny_pure (hQ h₅ he₅ (hit₄.at fun o q => hs₅.extBut it o (Ne.symm hne) q) (hs₅.extBut _ _ (Nat.ne_of_gt lt) ht₄) (hs₅.1.trans z₄) fun b o ne ni q => hs₅.extBut b o ne (k₄ b o ne ni q))⟩
theorem enumT_end {e it l T : Addr} {i : Nat} {items : Array Value} {old : Value} {f : Bool} {Q : Option Value → Shared → Prop} (hh : A.handled = none)
    (he : IsEnumHeld s.heap e it i old T f) (hit : s.heap.IsTupleIter it l i) (hl : s.heap.IsTuple l items) (hx : items[i]? = none)
    (hQ : ∀ h', Heap.ExtBut it s.heap h' → Q none { s with heap := h' }) : wpAny (model prog w) A (pyNext (.ref e)) Q E s := by
  have hTy : s.TypeIs (.ref e) "enumerate" := ⟨_, he, rfl⟩
  unfold pyNext
  refine wpAny_bind (wpAny_attempt (wpAny_callSpecial?_slot (name := Str.ofString "__next__") hTy F.slot_enumerate_next
    (wpAny_call_entry F.slot_enumerate_next hTy F.entry_enumerate_next ?_ (F.args_enumerate_next_1 _))))
  show wpAny _ _ (field (.ref e) 2 >>= _) _ _ _
  refine wpAny_bind (wpAny_field he rfl (x := .ref it) rfl ?_)
  refine wpAny_bind (wpAny_nextOf_tuple_end hh hit hl hx fun h' x k ⟨o, ho, hc⟩ => ?_)
  exact wpAny_bind (wpAny_isInstance (T := "StopIteration") (b := true) ⟨o, ho, hc⟩ isSubtype_stop (wpAny_pure (hQ _ k)))
end
theorem PairArg.enumT {prog : Program} {w : World} (e it l : Addr) (hei : e ≠ it) (hle : l ≠ e) (hli : l ≠ it) (items : Array Value) :
    PairArg prog w "enumerate" e [e, it, l] [e, it] items.size (fun i k v => (∃ t, k = .int i t) ∧ items[i]? = some v)
      (fun h => (∃ old, IsEnum h e it 0 old) ∧ h.IsTupleIter it l 0 ∧ h.IsTuple l items) where
  type := fun s ok => let ⟨⟨_, he⟩, _⟩ := ok; ⟨_, he, rfl⟩
  notDict := by decide
  keep := fun h h' ok hk => let ⟨⟨old, he⟩, hit, hl⟩ := ok
    ⟨⟨old, hk _ _ he⟩, hit.at fun o x => hk _ o x, hl.at fun o x => hk _ o x⟩
  there := fun h ok b hb => by
    obtain ⟨⟨old, he⟩, ⟨o1, h1, _⟩, ⟨o2, h2, _⟩⟩ := ok
    simp only [List.mem_cons, List.not_mem_nil, or_false] at hb
    rcases hb with rfl | rfl | rfl
    · exact ⟨_, he⟩
    · exact ⟨_, h1⟩
    · exact ⟨_, h2⟩
  sub := fun b hb => by simp at hb ⊢; rcases hb with rfl | rfl <;> simp
  noKeys := fun A s Q E hA ok h => let ⟨⟨_, he⟩, _⟩ := ok; getAttrOr_miss_enumerate he rfl rfl rfl enumerate_no_keys (by decide +kernel) hA h
  iter := fun A s d Q E hA ok hd hdf h => by
    obtain ⟨⟨old, he⟩, hit, hl⟩ := ok
    simp only [List.mem_cons, List.not_mem_nil, or_false, not_or] at hdf
    obtain ⟨de, dit, dl⟩ := hdf
    refine wpAny_pyIter_enum he (h e [e, it] (fun i h => h.IsTupleIter it l i ∧ h.IsTuple l items ∧ ((∃ old, IsEnum h e it i old) ∨ ∃ old T f oT, IsEnumHeld h e it i old T f ∧ h.get? T = some oT ∧ T ≠ e ∧ T ≠ it ∧ T ≠ d)) s.heap s.toks ?_
      ⟨hit, hl, .inl ⟨old, he⟩⟩ (fun _ _ z => z) fun b hb => .inl hb)
    have two : ∀ b, b ∉ [e, it] → b ≠ e ∧ b ≠ it := fun b hb => by simpa using hb
    refine ⟨by simp [de, dit], ?_, ?_, ?_⟩
    · rintro i h₁ h₂ ⟨hit, hl, he⟩ hk
      refine ⟨hit.at fun o x => hk _ o (Ne.symm dit) x, hl.at fun o x => hk _ o (Ne.symm dl) x, ?_⟩
      rcases he with ⟨old, he⟩ | ⟨old, T, f, oT, he, hT, r1, r2, r3⟩
      · exact .inl ⟨old, hk _ _ (Ne.symm de) he⟩
      · exact .inr ⟨old, T, f, oT, hk _ _ (Ne.symm de) he, hk _ _ r3 hT, r1, r2, r3⟩
    · rintro i s₁ Q₁ E₁ hi ⟨hit, hl, he⟩ hds hQ
      have ex := Array.getElem?_eq_getElem hi
      have ec : ((i + 1 : Nat) : Int) = (i : Int) + 1 := by omega
      rcases he with ⟨old, he⟩ | ⟨old, T, f, oT, he, hT, r1, r2, r3⟩
      · refine wpAny_pyNext_enum_itemD (Draws.tuple (show Around.handled (Around.in1 _) = none from hA) it l hli items) he ⟨hit, hl⟩ hi hei (by simp [hei, Ne.symm hle]) fun x h' tk hx ho hst hT hsz hk => ?_
        have nit : s₁.heap.objs.size ≠ it := let ⟨_, x, _⟩ := hit; Nat.ne_of_gt (Heap.lt_size x)
        exact hQ s₁.heap.objs.size _ _ h' (tk + 1) ⟨⟨_, rfl⟩, hx⟩ (.inl ⟨_, hT, rfl, _, rfl⟩)
          ⟨hst.1, hst.2, .inr ⟨_, s₁.heap.objs.size, false, _, (by rw [ec]; exact ho), hT, Nat.ne_of_gt (Heap.lt_size he), nit, Nat.ne_of_gt hds⟩⟩
          fun b o hb z => hk b o (two b hb).1 (two b hb).2 z
      · refine enumT_item he hT r1 r2 hit hl ex hei fun h' ho hit' hT' hsz hk => ?_
        exact hQ s₁.heap.objs.size _ _ h' (s₁.toks + 1) ⟨⟨_, rfl⟩, ex⟩ (.inl ⟨_, hT', rfl, _, rfl⟩)
          ⟨hit', hl.at fun o x => hk l o hle hli x, .inr ⟨old, T, true, oT, (by rw [ec]; exact ho), hk _ _ r1 r2 hT, r1, r2, r3⟩⟩
          fun b o hb z => hk b o (two b hb).1 (two b hb).2 z
    · rintro s₁ Q₁ E₁ ⟨hit, hl, he⟩ hQ
      have hx : items[items.size]? = none := Array.getElem?_eq_none (Nat.le_refl _)
      rcases he with ⟨old, he⟩ | ⟨old, T, f, oT, he, hT, r1, r2, r3⟩
      · exact wpAny_pyNext_enum_endD (Draws.tuple (show Around.handled (Around.in1 _) = none from hA) it l hli items) he ⟨hit, hl⟩ fun h' hk => hQ h' s₁.toks fun b o hb z => hk b o (two b hb).2 z
      · exact enumT_end hA he hit hl hx fun h' hk => hQ h' s₁.toks fun b o hb z => hk b o (two b hb).2 z
end PySem
namespace XV
open PySem PySem.Spec PyProof.Rows L2
section
variable {X : Cx} {e : Expr} {ta : TA} {p p2 p3 pos : Pos}
/-- dict(enumerate(e)), e a tuple -/
theorem pe_dictEnumT (hc : X.calm = true) (hg : Gl X "dict") (hm : X.mg "dict" = none) (hg2 : Gl X "enumerate") (hm2 : X.mg "enumerate" = none) (ha : PA X [e] ta)
    (hs : starEach [.Call (.Name "enumerate" p2) [e] [] p3] X.env = (false, eval (.Call (.Name "enumerate" p2) [e] [] p3) X.env) :: starEach [] X.env := by rfl)
    (he : starEach [e] X.env = (false, eval e X.env) :: starEach [] X.env := by rfl) (hpl : (backTo p3 (starEach [] X.env)).any (·.1) = false := by rfl) :
    PE X (.Call (.Name "dict" p) [.Call (.Name "enumerate" p2) [e] [] p3] [] pos) (fun σ H Q => ta σ H fun vs H1 => ∃ (l : Addr) (xs : List V), vs = [.ref l] ∧ SqT X.K H1 l xs ∧ ∀ d, H1 d = none → Q (.ref d) (upd H1 d (.dK (mergeK [] (enumK xs))))) := by
  refine ⟨fun pins s σ H Q I hq => ?_⟩
  refine wpAny_Call_Name_kw (ld_blt I hg hm (u := .type "dict") (by decide +kernel) ?_ (by decide) (by decide))
  refine PyProof.Rows.callWith_type1 ?_ hs rfl
  rw [hs]
  show wpAny _ _ (spliced ((false, eval (.Call (.Name "enumerate" p2) [e] [] p3) X.env) :: backTo pos (starEach [] X.env))) _ _ s
  refine Calls.spliced_cons ?_
  refine wpAny_Call_Name_kw (ld_blt I hg2 hm2 (u := .type "enumerate") (by decide +kernel) ?_ (by decide) (by decide))
  refine PyProof.Rows.callWith_type1 (thn (ha.run p3 pins s σ H _ I hq) fun us s1 ⟨vs, H1, I1, r1, l, xs, ev, hl, q⟩ => ?_) he hpl
  subst ev
  rw [Vals.ref1 r1]
  obtain ⟨its, rv, hT, hz⟩ := I1.tuple hl
  have hz' : its.length ≤ sizeLine := by rw [← Paired.length rv]; exact hz
  have lsz : l < s1.heap.objs.size := by
    obtain ⟨o, ho, _⟩ := hT
    exact Heap.lt_size ho
  refine enum_call1 (begins_tuple l its.toArray) hT (fun h' hE hI hsz hk => Calls.spliced_nil ?_)
  have hT' : h'.IsTuple l its.toArray := hT.imp fun o z => ⟨hk _ o z.1, z.2⟩
  have hIt : h'.IsTupleIter s1.heap.objs.size l 0 := ⟨_, hI, rfl, rfl⟩
  refine call_dict_pairs (knd := mixKind X.prog X.w) (kvs := (its.zipIdx 0).map fun q => ((Sum.inl (q.2 : Int) : Key), q.1)) (PairArg.enumT (s1.heap.objs.size + 1) s1.heap.objs.size l (Nat.succ_ne_self _) (Nat.ne_of_lt (Nat.lt_succ_of_lt lsz)) (Nat.ne_of_lt lsz) its.toArray) (I1.ok.hd hc) ⟨⟨_, hE⟩, hIt, hT'⟩ ⟨by simp, fun j key v ⟨⟨t, e1⟩, e2⟩ => ?_⟩ (by simpa using hz') fun h2 tk hd k2 => ?_
  · refine ⟨Sum.inl (j : Int), ?_, ?_⟩
    · rw [List.getElem?_map, List.getElem?_zipIdx]
      have e3 : its[j]? = some v := by simpa using e2
      rw [e3]
      simp
    · subst e1
      show keyIs (Sum.inl (j : Int)) (.int (j : Int) t) = true
      exact kV_is (P := X.prog) (w := X.w) (k := Sum.inl (j : Int)) (show RelV (.int (j : Int)) _ from ⟨t, rfl⟩)
  · have a0 : s1.heap.objs.size ≤ h'.objs.size := by omega
    have kk : ∀ b o', s1.heap.get? b = some o' → h2.get? b = some o' := fun b o' z => k2 b o' (by
      have lb := Heap.lt_size z
      simp only [List.mem_cons, List.not_mem_nil, or_false]
      rintro (e | e)
      · rw [e] at lb; exact absurd lb (Nat.not_lt.mpr (Nat.le_succ _))
      · rw [e] at lb; exact absurd lb (Nat.lt_irrefl _)) (hk b o' z)
    have hm' : (h'.objs.size == sysModules) = false := beq_eq_false_iff_ne.mpr (Nat.ne_of_gt (Nat.lt_of_lt_of_le I1.big a0))
    have hlen : (mergeK [] (enumK xs)).length ≤ sizeLine := by
      refine Nat.le_trans (length_mergeK _ []) ?_
      rw [List.length_nil, Nat.zero_add, enumK_len]
      exact hz
    exact ⟨.ref h'.objs.size, _, I1.laid (t' := tk) (a := h'.objs.size) kk a0 (show ObjOk X.prog X.w _ _ _ (.dK (mergeK [] (enumK xs))) from ⟨hlen, hm', _, KV.merge (kv_enum 0 rv) .nil, hd⟩), rfl, q _ (I1.hok.fresh a0)⟩
/-- dict(enumerate(e)), e a list or a tuple -/
theorem pe_dictEnumE (hc : X.calm = true) (hg : Gl X "dict") (hm : X.mg "dict" = none) (hg2 : Gl X "enumerate") (hm2 : X.mg "enumerate" = none) {i : Nat} (ha : PA X [e] (tCons (tVar i) tNil))
    (hs : starEach [.Call (.Name "enumerate" p2) [e] [] p3] X.env = (false, eval (.Call (.Name "enumerate" p2) [e] [] p3) X.env) :: starEach [] X.env := by rfl)
    (he : starEach [e] X.env = (false, eval e X.env) :: starEach [] X.env := by rfl) (hpl : (backTo p3 (starEach [] X.env)).any (·.1) = false := by rfl) (h1 : True := trivial) :
    PE X (.Call (.Name "dict" p) [.Call (.Name "enumerate" p2) [e] [] p3] [] pos) (fun σ H Q => ∃ (l : Addr) (xs : List V), σ[i]? = some (some (.ref l)) ∧ SqE X.K H l xs ∧ ∀ d, H d = none → Q (.ref d) (upd H d (.dK (mergeK [] (enumK xs))))) := by
  refine ⟨fun pins s σ H Q I hq => ?_⟩
  obtain ⟨l, xs, hσ, hl, q⟩ := hq
  rcases hl with hl | hl
  · exact (pe_dictEnum hc hg hm hg2 hm2 ha hs he hpl).run pins s σ H Q I ⟨_, hσ, l, xs, rfl, hl, q⟩
  · exact (pe_dictEnumT hc hg hm hg2 hm2 ha hs he hpl).run pins s σ H Q I ⟨_, hσ, l, xs, rfl, hl, q⟩
end
end XV

set_option Elab.async false
set_option linter.all false
set_option maxRecDepth 100000
set_option maxHeartbeats 4000000
/-! loops over a list or a tuple that stood already ahead of what the loop changes -/
namespace L2
open PySem PySem.Spec PyProof.Rows
section
variable {K : PySem.W.Frag} {a : Addr} {xs : List V} {g : TG} {B H0 : Hp}
theorem enumB {tb : TS} {D : Ends} {σ : St} (hq : SqE K B a xs) (Pv : Nat → St → Hp → Prop) (same : ∀ i ρ H, Pv i ρ H → Same B H) (h0 : Pv 0 σ H0)
    (hs : ∀ i x ρ H T, xs[i]? = some x → Pv i ρ H → H T = none → g (.ref T) ρ (upd H T (.tup [.int (i : Nat), x])) fun ρ2 H2 => tb { D with nx := Pv (i + 1), ct := Pv (i + 1), bk := D.nx } ρ2 H2) (hd : ∀ ρ H, Pv xs.length ρ H → D.nx ρ H) :
    (SqL K H0 a xs ∧ tForR g tb D σ (Ite K a) H0) ∨ (SqT K H0 a xs ∧ tForR g tb D σ (Itf K a) H0) := by
  rcases hq with q | q
  · refine .inl ⟨(same 0 σ H0 h0).seq q, fun i m ρ H => m = xs.length - i ∧ i ≤ xs.length ∧ Pv i ρ H, ⟨xs.length, by simp, Nat.zero_le _, h0⟩, ?_⟩
    rintro i m ρ H ⟨rfl, hi, p⟩
    have q1 := (same i ρ H p).seq q
    by_cases lt : i < xs.length
    · refine .inr ⟨⟨xs, xs[i], q1, by simp [lt]⟩, Pv (i + 1), fun ρ1 H1 p1 => ⟨xs.length - (i + 1), by omega, rfl, lt, p1⟩, fun x H1 y => ?_⟩
      obtain ⟨T, z, rfl, n, rfl, y⟩ := y
      exact hs i z ρ H T (y xs q1) p n
    · have e : i = xs.length := by omega
      subst e
      exact .inl ⟨⟨xs, q1, Nat.le_refl _⟩, hd ρ H p⟩
  · refine .inr ⟨SqT.ext q (same 0 σ H0 h0), fun i m ρ H => m = xs.length - i ∧ i ≤ xs.length ∧ Pv i ρ H, ⟨xs.length, by simp, Nat.zero_le _, h0⟩, ?_⟩
    rintro i m ρ H ⟨rfl, hi, p⟩
    have q1 := SqT.ext q (same i ρ H p)
    by_cases lt : i < xs.length
    · refine .inr ⟨⟨xs, xs[i], q1, by simp [lt]⟩, Pv (i + 1), fun ρ1 H1 p1 => ⟨xs.length - (i + 1), by omega, rfl, lt, p1⟩, fun x H1 y => ?_⟩
      obtain ⟨T, z, rfl, n, rfl, y⟩ := y
      exact hs i z ρ H T (y xs q1) p n
    · have e : i = xs.length := by omega
      subst e
      exact .inl ⟨⟨xs, q1, rfl⟩, hd ρ H p⟩
theorem eachB {tb : TS} {D : Ends} {σ : St} (hq : SqE K B a xs) (Pv : Nat → St → Hp → Prop) (same : ∀ i ρ H, Pv i ρ H → Same B H) (h0 : Pv 0 σ H0)
    (hs : ∀ i x ρ H, xs[i]? = some x → Pv i ρ H → g x ρ H fun ρ2 H2 => tb { D with nx := Pv (i + 1), ct := Pv (i + 1), bk := D.nx } ρ2 H2) (hd : ∀ ρ H, Pv xs.length ρ H → D.nx ρ H) :
    (SqL K H0 a xs ∧ tForR g tb D σ (Itl K a) H0) ∨ (SqT K H0 a xs ∧ tForR g tb D σ (Itt K a) H0) := by
  rcases hq with q | q
  · refine .inl ⟨(same 0 σ H0 h0).seq q, fun i m ρ H => m = xs.length - i ∧ i ≤ xs.length ∧ Pv i ρ H, ⟨xs.length, by simp, Nat.zero_le _, h0⟩, ?_⟩
    rintro i m ρ H ⟨rfl, hi, p⟩
    have q1 := (same i ρ H p).seq q
    by_cases lt : i < xs.length
    · refine .inr ⟨⟨xs, xs[i], q1, by simp [lt]⟩, Pv (i + 1), fun ρ1 H1 p1 => ⟨xs.length - (i + 1), by omega, rfl, lt, p1⟩, fun x H1 y => ?_⟩
      obtain ⟨e, y⟩ := y
      subst e
      exact hs i x ρ _ (y xs q1) p
    · have e : i = xs.length := by omega
      subst e
      exact .inl ⟨⟨xs, q1, Nat.le_refl _⟩, hd ρ H p⟩
  · refine .inr ⟨SqT.ext q (same 0 σ H0 h0), fun i m ρ H => m = xs.length - i ∧ i ≤ xs.length ∧ Pv i ρ H, ⟨xs.length, by simp, Nat.zero_le _, h0⟩, ?_⟩
    rintro i m ρ H ⟨rfl, hi, p⟩
    have q1 := SqT.ext q (same i ρ H p)
    by_cases lt : i < xs.length
    · refine .inr ⟨⟨xs, xs[i], q1, by simp [lt]⟩, Pv (i + 1), fun ρ1 H1 p1 => ⟨xs.length - (i + 1), by omega, rfl, lt, p1⟩, fun x H1 y => ?_⟩
      obtain ⟨e, y⟩ := y
      subst e
      exact hs i x ρ _ (y xs q1) p
    · have e : i = xs.length := by omega
      subst e
      exact .inl ⟨⟨xs, q1, Nat.le_refl _⟩, hd ρ H p⟩
end
end L2

set_option linter.all false
set_option maxRecDepth 100000
set_option maxHeartbeats 4000000
/-! joinings, pure: which steps are right -/
namespace KJ
abbrev Dc := List (Int × Int)
/-- whether a step (a, b, c) may be taken; D: the nodes that are there, with their weights -/
def okD (D : Dc) (a b c : Int) : Bool := match D.lookup a, D.lookup b with
  | some x, some y => decide (a ≠ b) && decide (c = x + y) && D.all fun q => decide (q.1 = a) || decide (q.1 = b) || decide (max x y ≤ q.2)
  | _, _ => false
def cut (D : Dc) (a b : Int) : Dc := D.filter fun q => !decide (q.1 = a) && !decide (q.1 = b)
def run : Dc → Nat → List (Option (Int × Int × Int)) → Bool
  | _, _, [] => true
  | _, _, none :: _ => false
  | D, k, some (a, b, c) :: r => okD D a b c && run (cut D a b ++ [((k : Int), c)]) (k + 1) r
def d0 (ns : List Int) : Dc := ns.zipIdx.map fun q => ((q.2 : Int), q.1)
def jd (ns : List Int) : Option (List (Option (Int × Int × Int))) → Bool
  | none => false
  | some L => decide (L.length = ns.length - 1) && run (d0 ns) ns.length L
/-! the same, told by a list of nodes and the weights of all -/
def dT (T : List Nat) (W : List Int) : Dc := T.map fun (t : Nat) => ((t : Int), W.getD t 0)
theorem keys_dT (T : List Nat) (W : List Int) : (dT T W).map (·.1) = T.map fun (t : Nat) => (t : Int) := by unfold dT; rw [List.map_map]; rfl
theorem lookup_in {T : List Nat} {W : List Int} {t : Nat} (h : t ∈ T) : (dT T W).lookup (t : Int) = some (W.getD t 0) := by
  induction T with
  | nil => cases h
  | cons s T ih =>
    unfold dT
    rw [List.map_cons, List.lookup_cons]
    by_cases e : t = s
    · subst e; simp
    · have ne : ((t : Int) == (s : Int)) = false := by
        rw [beq_eq_false_iff_ne]; exact fun z => e (Int.ofNat.inj z)
      rw [ne]
      exact ih ((List.mem_cons.mp h).resolve_left e)
theorem lookup_out {T : List Nat} {W : List Int} {a : Int} (h : a ∉ T.map fun (t : Nat) => (t : Int)) : (dT T W).lookup a = none := by
  induction T with
  | nil => rfl
  | cons s T ih =>
    rw [List.map_cons, List.mem_cons, not_or] at h
    unfold dT
    rw [List.map_cons, List.lookup_cons]
    have ne : (a == (s : Int)) = false := by simpa using h.1
    rw [ne]
    exact ih h.2
theorem getD_app {W : List Int} {t : Nat} (h : t < W.length) (c : Int) : (W ++ [c]).getD t 0 = W.getD t 0 := by
  rw [List.getD_eq_getElem?_getD, List.getD_eq_getElem?_getD, List.getElem?_append_left h]
theorem getD_last (W : List Int) (c : Int) : (W ++ [c]).getD W.length 0 = c := by
  rw [List.getD_eq_getElem?_getD]; simp
def cutT (T : List Nat) (a b : Int) : List Nat := T.filter fun t => !decide ((t : Int) = a) && !decide ((t : Int) = b)
theorem cut_dT (T : List Nat) (W : List Int) (a b : Int) : cut (dT T W) a b = dT (cutT T a b) W := by
  unfold cut dT cutT
  rw [List.filter_map]
  rfl
theorem dT_app {T : List Nat} {W : List Int} (h : ∀ t ∈ T, t < W.length) (c : Int) : dT (T ++ [W.length]) (W ++ [c]) = dT T W ++ [((W.length : Int), c)] := by
  unfold dT
  rw [List.map_append, List.map_cons, List.map_nil, getD_last]
  congr 1
  refine List.map_congr_left fun t ht => ?_
  rw [getD_app (h t ht)]
theorem step_dT {T : List Nat} {W : List Int} (h : ∀ t ∈ T, t < W.length) (a b c : Int) : cut (dT T W) a b ++ [((W.length : Int), c)] = dT (cutT T a b ++ [W.length]) (W ++ [c]) := by
  rw [dT_app (T := cutT T a b) (fun t ht => h t (List.mem_filter.mp ht).1), cut_dT]
theorem d0_dT (ns : List Int) : d0 ns = dT (List.range ns.length) ns := by
  unfold d0 dT
  apply List.ext_getElem?
  intro i
  rw [List.getElem?_map, List.getElem?_map, List.getElem?_zipIdx]
  by_cases hi : i < ns.length
  · rw [List.getElem?_eq_getElem hi, List.getElem?_range hi]
    simp [List.getD_eq_getElem?_getD, hi]
  · rw [List.getElem?_eq_none (by omega), List.getElem?_eq_none (by simpa using hi)]
    rfl
end KJ

set_option linter.all false
set_option maxRecDepth 100000
set_option maxHeartbeats 4000000
/-! dicts of whole numbers -/
namespace KJ
open PySem L2 XV
def dk (D : Dc) : List (Key × V) := D.map fun q => (Sum.inl q.1, V.int q.2)
theorem dk_len (D : Dc) : (dk D).length = D.length := by simp [dk]
theorem valV_dk (D : Dc) (a : Int) : valV (dk D) (Sum.inl a) = (D.lookup a).map V.int := by
  induction D with
  | nil => rfl
  | cons p D ih =>
    unfold dk
    rw [List.map_cons, List.lookup_cons]
    by_cases e : p.1 = a
    · rw [valV_pos (by show Sum.inl p.1 = Sum.inl a; rw [e])]
      have : (a == p.1) = true := by rw [e]; simp
      rw [this]
      rfl
    · rw [valV_neg (by intro z; exact e (Sum.inl.inj z))]
      have : (a == p.1) = false := by rw [beq_eq_false_iff_ne]; exact fun z => e z.symm
      rw [this]
      exact ih
theorem drop_dk (D : Dc) (a : Int) : dropK (dk D) (Sum.inl a) = dk (D.filter fun q => !decide (q.1 = a)) := by
  unfold dropK dk
  rw [List.filter_map]
  congr 1
  refine List.filter_congr fun q _ => ?_
  by_cases e : q.1 = a <;> simp [e]
theorem drop_dk2 (D : Dc) (a b : Int) : dropK (dropK (dk D) (Sum.inl a)) (Sum.inl b) = dk (cut D a b) := by
  rw [drop_dk, drop_dk, List.filter_filter]
  unfold cut
  congr 1
  refine List.filter_congr fun q _ => ?_
  rw [Bool.and_comm]
theorem put_dk {D : Dc} {k : Int} (c : Int) (h : D.lookup k = none) : putK (dk D) (Sum.inl k) (.int c) = dk (D ++ [(k, c)]) := by
  rw [putK_new _ (by rw [valV_dk, h]; rfl)]
  simp [dk]
theorem lookup_none {D : Dc} {k : Int} (h : ∀ q ∈ D, q.1 ≠ k) : D.lookup k = none := by
  induction D with
  | nil => rfl
  | cons p D ih =>
    rw [List.lookup_cons]
    have : (k == p.1) = false := by rw [beq_eq_false_iff_ne]; exact fun z => h p (List.mem_cons_self ..) z.symm
    rw [this]
    exact ih fun q hq => h q (List.mem_cons_of_mem _ hq)
theorem merge_new : ∀ (more acc : List (Key × V)), (more.map (·.1)).Nodup → (∀ q ∈ more, valV acc q.1 = none) → mergeK acc more = acc ++ more
  | [], acc, _, _ => by simp [mergeK]
  | p :: more, acc, nd, h => by
    have hn := List.nodup_cons.mp nd
    have e : mergeK acc (p :: more) = mergeK (putK acc p.1 p.2) more := rfl
    rw [e, putK_new _ (h p (List.mem_cons_self ..))]
    rw [merge_new more (acc ++ [(p.1, p.2)]) hn.2 fun q hq => ?_]
    · simp
    · rw [valV_snoc _ _ _ _ (h p (List.mem_cons_self ..)), if_neg (fun z : q.1 = p.1 => hn.1 (List.mem_map.mpr ⟨q, hq, z⟩))]
      exact h q (List.mem_cons_of_mem _ hq)
theorem enum_dk (ns : List Int) : mergeK [] (enumK (ns.map V.int)) = dk (d0 ns) := by
  have e : enumK (ns.map V.int) = dk (d0 ns) := by
    unfold enumK dk d0
    apply List.ext_getElem?
    intro i
    simp only [List.getElem?_map, List.getElem?_zipIdx, Option.map_map]
    cases ns[i]? <;> rfl
  rw [merge_new _ _ ?_ fun q _ => rfl, List.nil_append, e]
  rw [e]
  have : (dk (d0 ns)).map (·.1) = (List.range ns.length).map fun (i : Nat) => (Sum.inl (i : Int) : Key) := by
    rw [d0_dT]
    unfold dk dT
    rw [List.map_map, List.map_map]
    rfl
  rw [this]
  exact List.Pairwise.map _ (fun i j (h : i ≠ j) z => h (Int.ofNat.inj (Sum.inl.inj z))) (List.nodup_range (n := ns.length))
/-- the rest of the nodes weigh enough -/
theorem all_cut (D : Dc) (a b m : Int) : ((cut D a b).map fun q => decide (m ≤ q.2)).all id = D.all fun q => decide (q.1 = a) || decide (q.1 = b) || decide (m ≤ q.2) := by
  unfold cut
  induction D with
  | nil => rfl
  | cons p D ih =>
    rw [List.filter_cons, List.all_cons, ← ih]
    by_cases h1 : p.1 = a
    · simp [h1]
    · by_cases h2 : p.1 = b
      · simp [h2]
      · simp [h1, h2]
end KJ
namespace KJ
variable {D : Dc} {a b c x y : Int}
theorem okD_eq : okD D a a c = false := by
  unfold okD
  split
  · simp
  · rfl
theorem okD_nl (h : D.lookup a = none) : okD D a b c = false := by unfold okD; rw [h]
theorem okD_nr (h : D.lookup b = none) : okD D a b c = false := by
  unfold okD; rw [h]
  cases D.lookup a <;> rfl
theorem okD_ns (ha : D.lookup a = some x) (hb : D.lookup b = some y) (h : c ≠ x + y) : okD D a b c = false := by
  unfold okD; rw [ha, hb]; simp [h]
theorem okD_yes (ha : D.lookup a = some x) (hb : D.lookup b = some y) (ab : a ≠ b) (h : c = x + y) : okD D a b c = ((cut D a b).map fun q => decide (max x y ≤ q.2)).all id := by
  rw [all_cut]
  unfold okD; rw [ha, hb]; simp [h, ab]
theorem lookup_mem : ∀ {D : Dc} {i : Nat} {k w : Int}, (D.map (·.1)).Nodup → D[i]? = some (k, w) → D.lookup k = some w
  | [], _, _, _, _, h => by cases h
  | p :: D, 0, k, w, _, h => by
    have e : p = (k, w) := Option.some.inj h
    rw [e, List.lookup_cons]
    simp
  | p :: D, i + 1, k, w, nd, h => by
    have hn := List.nodup_cons.mp nd
    have h' : D[i]? = some (k, w) := h
    rw [List.lookup_cons]
    have ne : (k == p.1) = false := by
      rw [beq_eq_false_iff_ne]
      intro z
      exact hn.1 (List.mem_map.mpr ⟨(k, w), List.mem_of_getElem? h', z⟩)
    rw [ne]
    exact lookup_mem hn.2 h'
theorem cut_take {i : Nat} {k w : Int} (h : D[i]? = some (k, w)) : cut (D.take (i + 1)) a b = cut (D.take i) a b ++ (if (!decide (k = a) && !decide (k = b)) = true then [(k, w)] else []) := by
  unfold cut
  rw [List.take_succ, h, List.filter_append]
  congr 1
  show List.filter _ [(k, w)] = _
  rw [List.filter_cons]
  rfl
end KJ

set_option linter.all false
set_option maxRecDepth 100000
set_option maxHeartbeats 4000000
/-! drawn steps are right; comprehensions over a list of nodes -/
namespace KJ
theorem cast_ne {x y : Nat} (h : x ≠ y) : (x : Int) ≠ (y : Int) := fun z => h (Int.ofNat.inj z)
theorem draw_ok {T : List Nat} {W : List Int} {x y a b : Nat} (hx : x ∈ T) (hy : y ∈ T) (ne : x ≠ y) (h1 : ∀ t ∈ T, W.getD x 0 ≤ W.getD t 0) (h2 : ∀ t ∈ T, t ≠ x → W.getD y 0 ≤ W.getD t 0) (hab : (a = x ∧ b = y) ∨ (a = y ∧ b = x)) :
    okD (dT T W) (a : Int) (b : Int) (W.getD x 0 + W.getD y 0) = true := by
  have hxy := h1 y hy
  have key : ∀ t ∈ T, t = x ∨ t = y ∨ W.getD y 0 ≤ W.getD t 0 := fun t ht => by
    by_cases e : t = x
    · exact .inl e
    · exact .inr (.inr (h2 t ht e))
  rcases hab with ⟨rfl, rfl⟩ | ⟨rfl, rfl⟩
  · unfold okD
    rw [lookup_in hx, lookup_in hy]
    simp only [Bool.and_eq_true, decide_eq_true_eq]
    refine ⟨⟨cast_ne ne, trivial⟩, ?_⟩
    rw [List.all_eq_true]
    intro q hq
    obtain ⟨t, ht, rfl⟩ := List.mem_map.mp hq
    simp only [Bool.or_eq_true, decide_eq_true_eq]
    rcases key t ht with rfl | rfl | h
    · exact .inl (.inl rfl)
    · exact .inl (.inr rfl)
    · exact .inr (by omega)
  · unfold okD
    rw [lookup_in hx, lookup_in hy]
    simp only [Bool.and_eq_true, decide_eq_true_eq]
    refine ⟨⟨cast_ne ne.symm, by omega⟩, ?_⟩
    rw [List.all_eq_true]
    intro q hq
    obtain ⟨t, ht, rfl⟩ := List.mem_map.mp hq
    simp only [Bool.or_eq_true, decide_eq_true_eq]
    rcases key t ht with rfl | rfl | h
    · exact .inl (.inr rfl)
    · exact .inl (.inl rfl)
    · exact .inr (by omega)
theorem cutT_eq {T : List Nat} {x y a b : Nat} (hab : (a = x ∧ b = y) ∨ (a = y ∧ b = x)) : cutT T (a : Int) (b : Int) = (T.filter fun t => !decide (t = x)).filter fun t => !decide (t = y) := by
  unfold cutT
  rw [List.filter_filter]
  refine List.filter_congr fun t _ => ?_
  have e : ∀ u : Nat, decide ((t : Int) = (u : Int)) = decide (t = u) := fun u => by
    by_cases h : t = u
    · subst h; simp
    · rw [decide_eq_false h, decide_eq_false (cast_ne h)]
  rw [e, e]
  rcases hab with ⟨rfl, rfl⟩ | ⟨rfl, rfl⟩
  · exact Bool.and_comm ..
  · rfl
/-- what stays true of the nodes that are there -/
def There (T : List Nat) (W : List Int) : Prop := T.Nodup ∧ ∀ t ∈ T, t < W.length
theorem There.next {T : List Nat} {W : List Int} (h : There T W) (a b : Nat) (c : Int) : There (cutT T (a : Int) (b : Int) ++ [W.length]) (W ++ [c]) := by
  obtain ⟨nd, lt⟩ := h
  have l2 : ∀ t ∈ cutT T (a : Int) (b : Int), t < W.length := fun t ht => lt t (List.mem_filter.mp ht).1
  refine ⟨?_, fun t ht => ?_⟩
  · rw [List.nodup_append]
    refine ⟨List.filter_sublist.nodup nd, by simp, fun x hx y hy => ?_⟩
    have := l2 x hx
    simp at hy
    omega
  · rw [List.length_append]
    rcases List.mem_append.mp ht with h | h
    · have := l2 t h; show _ < _ + 1; omega
    · simp at h; subst h; show _ < _ + 1; omega
theorem len_drop1 {T : List Nat} {x : Nat} (nd : T.Nodup) (hx : x ∈ T) : (T.filter fun t => !decide (t = x)).length = T.length - 1 := by
  induction T with
  | nil => cases hx
  | cons s T ih =>
    have hn := List.nodup_cons.mp nd
    rw [List.filter_cons]
    by_cases e : s = x
    · subst e
      rw [if_neg (by simp)]
      rw [List.filter_eq_self.mpr fun t ht => by
        have : t ≠ s := fun z => hn.1 (z ▸ ht)
        simp [this]]
      simp
    · rw [if_pos (by simp [e]), List.length_cons, ih hn.2 ((List.mem_cons.mp hx).resolve_left fun z => e z.symm), List.length_cons]
      have : 0 < T.length := List.length_pos_of_mem ((List.mem_cons.mp hx).resolve_left fun z => e z.symm)
      omega
theorem There.len {T : List Nat} {W : List Int} {x y a b : Nat} (h : There T W) (hx : x ∈ T) (hy : y ∈ T) (ne : x ≠ y) (hab : (a = x ∧ b = y) ∨ (a = y ∧ b = x)) : (cutT T (a : Int) (b : Int)).length = T.length - 2 := by
  rw [cutT_eq hab, len_drop1 (List.filter_sublist.nodup h.1) (List.mem_filter.mpr ⟨hy, by simp [ne.symm]⟩), len_drop1 h.1 hx]
  omega
theorem There.start (ns : List Int) : There (List.range ns.length) ns := ⟨List.nodup_range, fun t h => List.mem_range.mp h⟩
end KJ
namespace L2
open PySem PySem.Spec PyProof.Rows
def nV (t : Nat) : V := V.int (t : Int)
/-- a comprehension over nodes, behind i of them -/
def Cmp (H1 : Hp) (D : Addr) (ts : List Nat) (f : Nat → Bool) (e : Nat → V) (i : Nat) (G : Hp) : Prop := Same H1 G ∧ G D = some (.lst (((ts.take i).filter f).map e))
theorem Cmp.skip {H1 : Hp} {D : Addr} {ts : List Nat} {f : Nat → Bool} {e : Nat → V} {i t : Nat} {G : Hp} (h : Cmp H1 D ts f e i G) (ht : ts[i]? = some t) (hf : f t = false) : Cmp H1 D ts f e (i + 1) G := by
  refine ⟨h.1, ?_⟩
  rw [List.take_succ, ht, List.filter_append]
  show _ = some (HO.lst ((_ ++ List.filter f [t]).map e))
  rw [List.filter_cons, hf, if_neg (by decide), List.filter_nil, List.append_nil]
  exact h.2
theorem Cmp.take {H1 : Hp} {D : Addr} {ts : List Nat} {f : Nat → Bool} {e : Nat → V} {i t : Nat} {G : Hp} {y : V} (h : Cmp H1 D ts f e i G) (ht : ts[i]? = some t) (hf : f t = true) (hy : y = e t) (hD : H1 D = none) (hz : ts.length < 1000) :
    ∃ acc, G D = some (.lst acc) ∧ acc.length < sizeLine ∧ Cmp H1 D ts f e (i + 1) (upd G D (.lst (acc ++ [y]))) := by
  subst hy
  refine ⟨_, h.2, ?_, fun b o x => by rw [upd_ne (ne_of_none x hD)]; exact h.1 _ _ x, ?_⟩
  · rw [List.length_map, sizeLine_eq]
    have := List.length_filter_le f (ts.take i)
    rw [List.length_take] at this
    omega
  · rw [upd_same, List.take_succ, ht, List.filter_append, List.map_append]
    show _ = some (HO.lst (_ ++ (List.filter f [t]).map e))
    rw [List.filter_cons, hf, if_pos rfl]
    rfl
theorem lc_nat {K : PySem.W.Frag} {a : Addr} {ts : List Nat} {g : TG} {tt : TT} {te : TE} {vs : List Nat} {σ : St} {H1 : Hp} {D : Addr} {Qd : Hp → Prop} (ha : H1 a = some (.lst (ts.map nV))) (hD : H1 D = none) (f : Nat → Bool) (e : Nat → V)
    (hs : ∀ i t G, ts[i]? = some t → Cmp H1 D ts f e i G → g (nV t) (wipe σ vs) G fun σ2 H2 => wipe σ2 vs = wipe σ vs ∧ tt σ2 H2 fun b H3 =>
      if b = true then te σ2 H3 fun y H4 => ∃ acc, H4 D = some (.lst acc) ∧ acc.length < sizeLine ∧ Cmp H1 D ts f e (i + 1) (upd H4 D (.lst (acc ++ [y]))) else Cmp H1 D ts f e (i + 1) H3)
    (hd : ∀ G, Same H1 G → G D = some (.lst ((ts.filter f).map e)) → Qd G) :
    ∃ W : Nat → Nat → Hp → Prop, (∃ m, W 0 m (upd H1 D (.lst []))) ∧ ∀ i m H, W i m H →
      ((Itl K a).stop i H ∧ Qd H) ∨ ((Itl K a).go i H ∧ ∃ Nx : Hp → Prop, (∀ H', Nx H' → ∃ m', m' < m ∧ W (i + 1) m' H') ∧ ∀ x H', (Itl K a).yld i H x H' → g x (wipe σ vs) H' fun σ2 H2 => wipe σ2 vs = wipe σ vs ∧ tt σ2 H2 fun b H3 =>
        if b = true then te σ2 H3 fun y H4 => ∃ acc, H4 D = some (.lst acc) ∧ acc.length < sizeLine ∧ Nx (upd H4 D (.lst (acc ++ [y]))) else Nx H3) :=
  lc_list (xs := ts.map nV) (Cmp H1 D ts f e) ⟨fun b o x => by rw [upd_ne (ne_of_none x hD)]; exact x, upd_same⟩ (fun i G _ h => SqL.of (h.1 _ _ ha))
    (fun i x G hx h => by
      rw [List.getElem?_map] at hx
      obtain ⟨t, h1, rfl⟩ := Option.map_eq_some_iff.mp hx
      exact hs i t G h1 h)
    (fun G h => hd G h.1 (by have := h.2; rwa [List.length_map, List.take_length] at this))
theorem rg_nat (n : Nat) : rgV 0 (n : Int) = (List.range n).map nV := by
  unfold rgV
  rw [show ((n : Int) - 0).toNat = n by omega]
  refine List.map_congr_left fun i _ => ?_
  show V.int (0 + (i : Int)) = V.int (i : Int)
  rw [Int.zero_add]
theorem nV_dec (a b : Nat) : decide (nV a = nV b) = decide (a = b) := by
  by_cases h : a = b
  · subst h; simp
  · rw [decide_eq_false h]
    exact decide_eq_false fun z => h (Int.ofNat.inj (by unfold nV at z; injection z))
end L2

set_option Elab.async false
set_option linter.all false
set_option maxRecDepth 100000
set_option maxHeartbeats 8000000
/-! the program's text by places, and what the top has written -/
namespace Z
open PySem L2 XV
def top (i : Nat) : Stmt := PySem.Challenge.pw_leastjoined_k21_joinings_judged.main.body.getD i (.Pass ⟨0, 0, 0, 0⟩)
abbrev s_isint : Stmt := top 1
abbrev s_kept : Stmt := top 2
abbrev s_checkmany : Stmt := top 10
abbrev s_checkcounts : Stmt := top 11
abbrev s_istriple : Stmt := top 13
abbrev s_canjoin : Stmt := top 14
abbrev s_isjoining : Stmt := top 15
abbrev s_penof : Stmt := top 17
abbrev s_draw : Stmt := top 18
abbrev s_pick : Stmt := top 19
abbrev s_somecounts : Stmt := top 20
abbrev s_oddcounts : Stmt := top 21
abbrev s_met : Stmt := top 22
abbrev s_drawn : Stmt := top 23
abbrev s_isnumber : Stmt := top 24
abbrev s_isright : Stmt := top 25
abbrev s_bent : Stmt := top 26
abbrev s_law : Stmt := top 27
abbrev s_TooMany : Stmt := inClass (top 5) 0
abbrev s_BadCount : Stmt := inClass (top 6) 0
/-- where the defs and classes stand -/
structure Ad where
  a_isint : Addr
  d_isint : FuncData
  a_kept : Addr
  d_kept : FuncData
  a_checkmany : Addr
  d_checkmany : FuncData
  a_checkcounts : Addr
  d_checkcounts : FuncData
  a_istriple : Addr
  d_istriple : FuncData
  a_canjoin : Addr
  d_canjoin : FuncData
  a_isjoining : Addr
  d_isjoining : FuncData
  a_penof : Addr
  d_penof : FuncData
  a_draw : Addr
  d_draw : FuncData
  a_pick : Addr
  d_pick : FuncData
  a_somecounts : Addr
  d_somecounts : FuncData
  a_oddcounts : Addr
  d_oddcounts : FuncData
  a_met : Addr
  d_met : FuncData
  a_drawn : Addr
  d_drawn : FuncData
  a_isnumber : Addr
  d_isnumber : FuncData
  a_isright : Addr
  d_isright : FuncData
  a_bent : Addr
  d_bent : FuncData
  a_law : Addr
  k_law : Addr
  p_law : Addr
  d_law : FuncData
  cj : Addr
  c_TooMany : Addr
  i_TooMany : Addr
  d_TooMany : FuncData
  c_BadCount : Addr
  i_BadCount : Addr
  d_BadCount : FuncData
/-- what a class of the errors says -/
structure Ec (K : PySem.W.Frag) (mg : Str → Option Value) (cj C fI : Addr) (x qual : Str) (st : Stmt) (fd : FuncData) (fs : List Str) : Prop where
  E : ErrC K C fI
  R : ErrR K C
  F : Fun K "__init__" qual st fI fd
  g : mg x = some (.ref C)
  m : ∃ cd, PySem.W.clsIn K C = some cd ∧ cd.mro = [.ref C, .ref cj, .type "ValueError", .type "Exception", .type "BaseException", .type "object"]
  ty : PySem.W.typeIn K (.ref C) = some (.type "type")
  b : KBn K fd ("self" :: fs) (fs.length + 1) [] (fun us _ => us) (fun vs _ => vs)
  bb : Binds K fd ("self" :: fs) []
  no : ∀ f ∈ fs, PySem.W.findIn K (.ref C) f = some none
structure Txt (K : PySem.W.Frag) (mg : Str → Option Value) (A : Ad) : Prop where
  F_isint : Fun K "is_int" "is_int" s_isint A.a_isint A.d_isint
  g_isint : mg "is_int" = some (.ref A.a_isint)
  b_isint : Binds K A.d_isint ["value"] []
  F_kept : Fun K "kept" "kept" s_kept A.a_kept A.d_kept
  g_kept : mg "kept" = some (.ref A.a_kept)
  b_kept : Binds K A.d_kept ["value"] []
  F_checkmany : Fun K "check_many" "check_many" s_checkmany A.a_checkmany A.d_checkmany
  g_checkmany : mg "check_many" = some (.ref A.a_checkmany)
  b_checkmany : Binds K A.d_checkmany ["many"] []
  F_checkcounts : Fun K "check_counts" "check_counts" s_checkcounts A.a_checkcounts A.d_checkcounts
  g_checkcounts : mg "check_counts" = some (.ref A.a_checkcounts)
  b_checkcounts : Binds K A.d_checkcounts ["counts"] []
  F_istriple : Fun K "is_triple" "is_triple" s_istriple A.a_istriple A.d_istriple
  g_istriple : mg "is_triple" = some (.ref A.a_istriple)
  b_istriple : Binds K A.d_istriple ["value"] []
  F_canjoin : Fun K "can_join" "can_join" s_canjoin A.a_canjoin A.d_canjoin
  g_canjoin : mg "can_join" = some (.ref A.a_canjoin)
  b_canjoin : Binds K A.d_canjoin ["weights", "step"] []
  F_isjoining : Fun K "is_joining" "is_joining" s_isjoining A.a_isjoining A.d_isjoining
  g_isjoining : mg "is_joining" = some (.ref A.a_isjoining)
  b_isjoining : Binds K A.d_isjoining ["counts", "steps"] []
  F_penof : Fun K "_law_pen_of" "_law_pen_of" s_penof A.a_penof A.d_penof
  g_penof : mg "_law_pen_of" = some (.ref A.a_penof)
  b_penof : Binds K A.d_penof ["_law_script"] []
  F_draw : Fun K "_law_draw" "_law_draw" s_draw A.a_draw A.d_draw
  g_draw : mg "_law_draw" = some (.ref A.a_draw)
  b_draw : Binds K A.d_draw ["_law_pen", "_law_many"] []
  F_pick : Fun K "_law_pick" "_law_pick" s_pick A.a_pick A.d_pick
  g_pick : mg "_law_pick" = some (.ref A.a_pick)
  b_pick : Binds K A.d_pick ["_law_pen", "_law_items"] []
  F_somecounts : Fun K "_law_some_counts" "_law_some_counts" s_somecounts A.a_somecounts A.d_somecounts
  g_somecounts : mg "_law_some_counts" = some (.ref A.a_somecounts)
  b_somecounts : Binds K A.d_somecounts ["_law_pen", "_law_many"] []
  F_oddcounts : Fun K "_law_odd_counts" "_law_odd_counts" s_oddcounts A.a_oddcounts A.d_oddcounts
  g_oddcounts : mg "_law_odd_counts" = some (.ref A.a_oddcounts)
  b_oddcounts : Binds K A.d_oddcounts ["_law_pen", "_law_counts"] []
  F_met : Fun K "_law_met" "_law_met" s_met A.a_met A.d_met
  g_met : mg "_law_met" = some (.ref A.a_met)
  b_met : Binds K A.d_met ["_law_call"] []
  F_drawn : Fun K "_law_drawn" "_law_drawn" s_drawn A.a_drawn A.d_drawn
  g_drawn : mg "_law_drawn" = some (.ref A.a_drawn)
  b_drawn : Binds K A.d_drawn ["_law_pen", "_law_counts"] []
  F_isnumber : Fun K "_law_is_number" "_law_is_number" s_isnumber A.a_isnumber A.d_isnumber
  g_isnumber : mg "_law_is_number" = some (.ref A.a_isnumber)
  b_isnumber : Binds K A.d_isnumber ["_law_value"] []
  F_isright : Fun K "_law_is_right" "_law_is_right" s_isright A.a_isright A.d_isright
  g_isright : mg "_law_is_right" = some (.ref A.a_isright)
  b_isright : Binds K A.d_isright ["_law_counts", "_law_steps"] []
  F_bent : Fun K "_law_bent" "_law_bent" s_bent A.a_bent A.d_bent
  g_bent : mg "_law_bent" = some (.ref A.a_bent)
  b_bent : Binds K A.d_bent ["_law_pen", "_law_steps"] []
  F_law : FunC K "law" "law" s_law A.a_law A.d_law A.k_law
  g_law : mg "law" = some (.ref A.a_law)
  b_law : Binds K A.d_law ["_law_script"] []
  ne : A.c_TooMany ≠ A.c_BadCount
  nej : A.c_TooMany ≠ A.cj
  B : BaseC K A.cj
  gj : mg "JoinsError" = some (.ref A.cj)
  cj : (PySem.W.clsIn K A.cj).isSome = true
  tj : PySem.W.typeIn K (.ref A.cj) = some (.type "type")
  E_TooMany : Ec K mg A.cj A.c_TooMany A.i_TooMany "TooMany" "TooMany.__init__" s_TooMany A.d_TooMany ["what", "many", "most"]
  E_BadCount : Ec K mg A.cj A.c_BadCount A.i_BadCount "BadCount" "BadCount.__init__" s_BadCount A.d_BadCount ["index"]
  k_FEWEST_SIGNS : ∃ t, mg "FEWEST_SIGNS" = some (.int (2) t)
  k_MOST_SIGNS : ∃ t, mg "MOST_SIGNS" = some (.int (26) t)
  z_ValueError : mg "ValueError" = none
  z_abs : mg "abs" = none
  z_all : mg "all" = none
  z_any : mg "any" = none
  z_bool : mg "bool" = none
  z_dict : mg "dict" = none
  z_enumerate : mg "enumerate" = none
  z_int : mg "int" = none
  z_isinstance : mg "isinstance" = none
  z_len : mg "len" = none
  z_list : mg "list" = none
  z_max : mg "max" = none
  z_min : mg "min" = none
  z_range : mg "range" = none
  z_repr : mg "repr" = none
  z_tuple : mg "tuple" = none
end Z

set_option Elab.async false
set_option linter.all false
set_option maxRecDepth 100000
set_option maxHeartbeats 8000000
/-! odd values; kept; the errors' own __init__; counts are checked -/
namespace Z
open PySem L2 XV KJ
theorem passX {X : Cx} : Passes (L2.CX X.prog X.w) X (fun _ _ _ => False) := fun _ _ _ _ _ _ _ h => by
  obtain ⟨_, _, _, _, _, _, _, _, _, _, _, _, e⟩ := h
  exact e.elim
theorem same_new {H : Hp} {p : Addr} {o : HO} (h : H p = none) : Same H (upd H p o) := fun b u e => by rw [upd_ne (ne_of_none e h)]; exact e
theorem yes_of {σ : L2.St} {H : Hp} {B C : Bool → Hp → Prop} (h : B true H) : tYes σ H (fun b H3 => if b = true then B b H3 else C b H3) := by
  unfold tYes
  show if true = true then B true H else C true H
  rw [if_pos rfl]
  exact h
inductive Odd (H : Hp) : V → Prop
  | non : Odd H .non
  | bl (b : Bool) : Odd H (.bl b)
  | int (i : Int) : Odd H (.int i)
  | str (x : Str) : Odd H (.str x)
  | lst {a : Addr} {xs : List V} (h : H a = some (.lst xs)) : Odd H (.ref a)
  | tup {a : Addr} {xs : List V} (h : H a = some (.tup xs)) : Odd H (.ref a)
  | dct {a : Addr} {kvs : List (Key × V)} (h : H a = some (.dK kvs)) : Odd H (.ref a)
theorem Odd.same {H G : Hp} {v : V} (h : Odd H v) (s : Same H G) : Odd G v := by
  cases h with
  | non => exact .non
  | bl b => exact .bl b
  | int i => exact .int i
  | str x => exact .str x
  | lst h => exact .lst (s _ _ h)
  | tup h => exact .tup (s _ _ h)
  | dct h => exact .dct (s _ _ h)
def isI : V → Bool
  | .int _ => true
  | _ => false
def isC : V → Bool
  | .int i => decide (0 ≤ i)
  | _ => false
def flat (v : V) : Prop := ∀ a, v ≠ .ref a
def spIs : Sp := fun vs H Q _ => ∃ v, vs = [v] ∧ Odd H v ∧ Q (.bl (isI v)) H
def spKept : Sp := fun vs H Q _ => ∃ v, vs = [v] ∧ Odd H v ∧ flat v ∧ Q v H
/-- an error's __init__, its fields flat -/
def spErr (C : Addr) (fs : List Str) : Sp := fun vs H Q _ => ∃ (a : Addr) (us : List V), vs = .ref a :: us ∧ us.length = fs.length ∧ H a = some (exo a C none) ∧ (∀ u ∈ us, Odd H u ∧ flat u) ∧
  ∀ (dx : Addr) (G : Hp), H dx = none → dx ≠ a → G a = some (exo a C (some dx)) → G dx = some (exd dx ((fs.zip us).reverse)) → (∀ b o, b ≠ a → H b = some o → G b = some o) → Q .non G
theorem Odd.upd {H : Hp} {v : V} (h : Odd H v) (f : flat v) {G : Hp} : Odd G v := by
  cases h with
  | non => exact .non
  | bl b => exact .bl b
  | int i => exact .int i
  | str x => exact .str x
  | lst h => exact absurd rfl (f _)
  | tup h => exact absurd rfl (f _)
  | dct h => exact absurd rfl (f _)
/-- Base.__init__(self, text) -/
theorem base_step {K : PySem.W.Frag} {C a : Addr} {H : Hp} {σ : L2.St} {D : Ends} {tx : Str} (T : OexC K C) (h0 : σ[0]? = some (some (.ref a))) (ha : H a = some (exo a C none)) (q : D.nx σ H) : tDrop (tVeI K (tCons (tVar 0) (tCons (tC (.str tx)) tNil))) D σ H :=
  ⟨_, h0, a, C, _, rfl, (by show 1 ≤ 1000; decide), T, ha, q⟩
/-- C(..), raised -/
theorem err_read {C : Addr} {fs : List Str} {us : List V} {H : Hp} {Q : XK} (hl : us.length = fs.length) (hz : us.length ≤ 1000) (fu : ∀ u ∈ us, flat u) (ou : ∀ u ∈ us, Odd H u) (k : ∀ d G, Same H G → G d = some (.xd ((fs.zip us).reverse)) → Q (.ref C) (some d) G) :
    us.length ≤ 1000 ∧ ∀ a, H a = none → spErr C fs (.ref a :: (us ++ [])) (upd H a (exo a C none)) (fun v H2 => v = .non ∧ ∃ (d : Addr) (gs : List (Str × V)), H2 a = some (exo a C (some d)) ∧ H2 d = some (exd d gs) ∧ H d = none ∧ Q (.ref C) (some d) (upd (L2.del H2 a) d (.xd gs))) (fun _ _ _ => False) := by
  refine ⟨hz, fun a na => ⟨a, us, by rw [List.append_nil], hl, upd_same, fun u hu => ⟨(ou u hu).upd (fu u hu), fu u hu⟩, fun dx G nd ne e1 e2 bt => ⟨rfl, dx, _, e1, e2, ?_, k dx _ (fun b o e => ?_) upd_same⟩⟩⟩
  · rw [upd_ne ne] at nd; exact nd
  · have n1 : b ≠ a := ne_of_none e na
    have n2 : b ≠ dx := ne_of_none e (by rw [upd_ne ne] at nd; exact nd)
    rw [upd_ne n2, L2.del_ne n1]
    exact bt b o n1 (by rw [upd_ne n1]; exact e)
theorem fl_int (i : Int) : flat (.int i) := fun _ z => nomatch z
theorem fl_str (x : Str) : flat (.str x) := fun _ z => nomatch z
def spMany (C : Addr) : Sp := fun vs H Q E => ∃ i : Int, vs = [.int i] ∧ (2 ≤ i ∧ i ≤ 26 → Q .non H) ∧ (¬ (2 ≤ i ∧ i ≤ 26) → ∀ d G, Same H G → G d = some (.xd [("most", .int 26), ("many", .int i), ("what", .str "signs")]) → E (.ref C) (some d) G)
/-- the first element that is no count has the index i -/
def BadAt (xs : List V) (i : Nat) : Prop := (∃ v, xs[i]? = some v ∧ isC v = false) ∧ ∀ j v, j < i → xs[j]? = some v → isC v = true
def spCheck (K : PySem.W.Frag) (C1 C2 : Addr) : Sp := fun vs H Q E => ∃ (a : Addr) (xs : List V), vs = [.ref a] ∧ SqE K H a xs ∧ (∀ x ∈ xs, Odd H x) ∧
  (2 ≤ xs.length ∧ xs.length ≤ 26 → (∀ x ∈ xs, isC x = true) → ∀ G, Same H G → Q .non G) ∧
  (¬ (2 ≤ xs.length ∧ xs.length ≤ 26) → ∀ d G, Same H G → G d = some (.xd [("most", .int 26), ("many", .int ((xs.length : Nat) : Int)), ("what", .str "signs")]) → E (.ref C1) (some d) G) ∧
  (2 ≤ xs.length ∧ xs.length ≤ 26 → ∀ i : Nat, BadAt xs i → ∀ d G, Same H G → G d = some (.xd [("index", .int (i : Int))]) → E (.ref C2) (some d) G)
section
variable {P : Program} {w : World} {K : PySem.W.Frag} {mg : Str → Option Value} {base : Heap} {A : Ad}
theorem sc_isint : FnScope ["value"] ["value"] (defScope s_isint) := ⟨rfl, rfl, rfl, by decide +kernel, rfl, by decide +kernel, by decide +kernel⟩
theorem ok_isint (T : Txt K mg A) : FnOk P w K mg base CX0 1 A.a_isint A.d_isint ["value"] spIs := by
  refine T.F_isint.ok sc_isint (fun vs H Q E h => ?_) (fun cdv Ar outer s H vs Q E hr h => ?_)
  · obtain ⟨i, rfl, _⟩ := h; rfl
  · obtain ⟨v, rfl, hv, kq⟩ := h
    refine ⟨_, (pss_one (ps_ret (pe_and (pe_callB call_isi (by rfl) T.z_isinstance (by decide +kernel) (pa_cons (pv 0) (pa_cons (pe_bltn (v := .ty "int") (by rfl) T.z_int (by decide +kernel) rfl) pa_nil))) (pe_one (pe_not (pe_callB call_isi (by rfl) T.z_isinstance (by decide +kernel) (pa_cons (pv 0) (pa_cons (pe_bltn (v := .ty "bool") (by rfl) T.z_bool (by decide +kernel) rfl) pa_nil)))))))), ?_⟩
    cases hv with
    | int i =>
      refine ⟨_, rfl, _, .ty "int", .type "int", .type "int", true, rfl, .ty "int", .base (.int i), kit_ty (by decide +kernel), true, rfl, iteT ?_⟩
      exact ⟨_, rfl, _, .ty "bool", .type "int", .type "bool", false, rfl, .ty "bool", .base (.int i), kit_ty (by decide +kernel), _, rfl, kq⟩
    | bl b =>
      refine ⟨_, rfl, _, .ty "int", .type "bool", .type "int", true, rfl, .ty "int", .base (.bl b), kit_ty (by decide +kernel), true, rfl, iteT ?_⟩
      exact ⟨_, rfl, _, .ty "bool", .type "bool", .type "bool", true, rfl, .ty "bool", .base (.bl b), kit_ty (by decide +kernel), _, rfl, kq⟩
    | non => exact ⟨_, rfl, _, .ty "int", .type "NoneType", .type "int", false, rfl, .ty "int", .base .non, kit_ty (by decide +kernel), false, rfl, iteF kq⟩
    | str x => exact ⟨_, rfl, _, .ty "int", .type "str", .type "int", false, rfl, .ty "int", .base (.str x), kit_ty (by decide +kernel), false, rfl, iteF kq⟩
    | lst h => exact ⟨_, rfl, _, .ty "int", .type "list", .type "int", false, rfl, .ty "int", .base (.lst h), kit_ty (by decide +kernel), false, rfl, iteF kq⟩
    | tup h => exact ⟨_, rfl, _, .ty "int", .type "tuple", .type "int", false, rfl, .ty "int", .base (.tup h), kit_ty (by decide +kernel), false, rfl, iteF kq⟩
    | dct h => exact ⟨_, rfl, _, .ty "int", .type "dict", .type "int", false, rfl, .ty "int", .base (.dK h), kit_ty (by decide +kernel), false, rfl, iteF kq⟩
theorem sc_isnumber : FnScope ["_law_value"] ["_law_value"] (defScope s_isnumber) := ⟨rfl, rfl, rfl, by decide +kernel, rfl, by decide +kernel, by decide +kernel⟩
theorem ok_isnumber (T : Txt K mg A) : FnOk P w K mg base CX0 1 A.a_isnumber A.d_isnumber ["_law_value"] spIs := by
  refine T.F_isnumber.ok sc_isnumber (fun vs H Q E h => ?_) (fun cdv Ar outer s H vs Q E hr h => ?_)
  · obtain ⟨i, rfl, _⟩ := h; rfl
  · obtain ⟨v, rfl, hv, kq⟩ := h
    refine ⟨_, (pss_one (ps_ret (pe_and (pe_callB call_isi (by rfl) T.z_isinstance (by decide +kernel) (pa_cons (pv 0) (pa_cons (pe_bltn (v := .ty "int") (by rfl) T.z_int (by decide +kernel) rfl) pa_nil))) (pe_one (pe_not (pe_callB call_isi (by rfl) T.z_isinstance (by decide +kernel) (pa_cons (pv 0) (pa_cons (pe_bltn (v := .ty "bool") (by rfl) T.z_bool (by decide +kernel) rfl) pa_nil)))))))), ?_⟩
    cases hv with
    | int i =>
      refine ⟨_, rfl, _, .ty "int", .type "int", .type "int", true, rfl, .ty "int", .base (.int i), kit_ty (by decide +kernel), true, rfl, iteT ?_⟩
      exact ⟨_, rfl, _, .ty "bool", .type "int", .type "bool", false, rfl, .ty "bool", .base (.int i), kit_ty (by decide +kernel), _, rfl, kq⟩
    | bl b =>
      refine ⟨_, rfl, _, .ty "int", .type "bool", .type "int", true, rfl, .ty "int", .base (.bl b), kit_ty (by decide +kernel), true, rfl, iteT ?_⟩
      exact ⟨_, rfl, _, .ty "bool", .type "bool", .type "bool", true, rfl, .ty "bool", .base (.bl b), kit_ty (by decide +kernel), _, rfl, kq⟩
    | non => exact ⟨_, rfl, _, .ty "int", .type "NoneType", .type "int", false, rfl, .ty "int", .base .non, kit_ty (by decide +kernel), false, rfl, iteF kq⟩
    | str x => exact ⟨_, rfl, _, .ty "int", .type "str", .type "int", false, rfl, .ty "int", .base (.str x), kit_ty (by decide +kernel), false, rfl, iteF kq⟩
    | lst h => exact ⟨_, rfl, _, .ty "int", .type "list", .type "int", false, rfl, .ty "int", .base (.lst h), kit_ty (by decide +kernel), false, rfl, iteF kq⟩
    | tup h => exact ⟨_, rfl, _, .ty "int", .type "tuple", .type "int", false, rfl, .ty "int", .base (.tup h), kit_ty (by decide +kernel), false, rfl, iteF kq⟩
    | dct h => exact ⟨_, rfl, _, .ty "int", .type "dict", .type "int", false, rfl, .ty "int", .base (.dK h), kit_ty (by decide +kernel), false, rfl, iteF kq⟩
theorem sc_kept : FnScope ["value", "part", "key"] ["value"] (defScope s_kept) := ⟨rfl, rfl, rfl, by decide +kernel, rfl, by decide +kernel, by decide +kernel⟩
theorem ok_kept (T : Txt K mg A) : FnOk P w K mg base CX0 1 A.a_kept A.d_kept ["value"] spKept := by
  refine T.F_kept.ok sc_kept (fun vs H Q E h => ?_) (fun cdv Ar outer s H vs Q E hr h => ?_)
  · obtain ⟨i, rfl, _⟩ := h; rfl
  · obtain ⟨v, rfl, hv, fv, kq⟩ := h
    refine ⟨_, (pss_cons (ps_if (pt_val (pe_callB call_isi (by rfl) T.z_isinstance (by decide +kernel) (pa_cons (pv 0) (pa_cons (pe_bltn (v := .ty "list") (by rfl) T.z_list (by decide +kernel) rfl) pa_nil)))) (pss_one ps_never)
        pss_nil)
      (pss_cons (ps_if (pt_val (pe_callB call_isi (by rfl) T.z_isinstance (by decide +kernel) (pa_cons (pv 0) (pa_cons (pe_bltn (v := .ty "tuple") (by rfl) T.z_tuple (by decide +kernel) rfl) pa_nil)))) (pss_one ps_never)
        pss_nil)
      (pss_cons (ps_if (pt_val (pe_callB call_isi (by rfl) T.z_isinstance (by decide +kernel) (pa_cons (pv 0) (pa_cons (pe_bltn (v := .ty "dict") (by rfl) T.z_dict (by decide +kernel) rfl) pa_nil)))) (pss_one ps_never)
        pss_nil)
      (pss_one (ps_ret (pv 0)))))), ?_⟩
    cases hv with
    | int i =>
      refine ⟨_, rfl, _, .ty "list", .type "int", .type "list", false, rfl, .ty "list", .base (.int i), kit_ty (by decide +kernel), false, rfl, iteF ?_⟩
      refine ⟨_, rfl, _, .ty "tuple", .type "int", .type "tuple", false, rfl, .ty "tuple", .base (.int i), kit_ty (by decide +kernel), false, rfl, iteF ?_⟩
      refine ⟨_, rfl, _, .ty "dict", .type "int", .type "dict", false, rfl, .ty "dict", .base (.int i), kit_ty (by decide +kernel), false, rfl, iteF ?_⟩
      exact ⟨_, rfl, kq⟩
    | bl b =>
      refine ⟨_, rfl, _, .ty "list", .type "bool", .type "list", false, rfl, .ty "list", .base (.bl b), kit_ty (by decide +kernel), false, rfl, iteF ?_⟩
      refine ⟨_, rfl, _, .ty "tuple", .type "bool", .type "tuple", false, rfl, .ty "tuple", .base (.bl b), kit_ty (by decide +kernel), false, rfl, iteF ?_⟩
      refine ⟨_, rfl, _, .ty "dict", .type "bool", .type "dict", false, rfl, .ty "dict", .base (.bl b), kit_ty (by decide +kernel), false, rfl, iteF ?_⟩
      exact ⟨_, rfl, kq⟩
    | non =>
      refine ⟨_, rfl, _, .ty "list", .type "NoneType", .type "list", false, rfl, .ty "list", .base (.non), kit_ty (by decide +kernel), false, rfl, iteF ?_⟩
      refine ⟨_, rfl, _, .ty "tuple", .type "NoneType", .type "tuple", false, rfl, .ty "tuple", .base (.non), kit_ty (by decide +kernel), false, rfl, iteF ?_⟩
      refine ⟨_, rfl, _, .ty "dict", .type "NoneType", .type "dict", false, rfl, .ty "dict", .base (.non), kit_ty (by decide +kernel), false, rfl, iteF ?_⟩
      exact ⟨_, rfl, kq⟩
    | str x =>
      refine ⟨_, rfl, _, .ty "list", .type "str", .type "list", false, rfl, .ty "list", .base (.str x), kit_ty (by decide +kernel), false, rfl, iteF ?_⟩
      refine ⟨_, rfl, _, .ty "tuple", .type "str", .type "tuple", false, rfl, .ty "tuple", .base (.str x), kit_ty (by decide +kernel), false, rfl, iteF ?_⟩
      refine ⟨_, rfl, _, .ty "dict", .type "str", .type "dict", false, rfl, .ty "dict", .base (.str x), kit_ty (by decide +kernel), false, rfl, iteF ?_⟩
      exact ⟨_, rfl, kq⟩
    | lst h => exact absurd rfl (fv _)
    | tup h => exact absurd rfl (fv _)
    | dct h => exact absurd rfl (fv _)
theorem sc_TooMany : FnScope ["self", "what", "many", "most"] ["self", "what", "many", "most"] (defScope s_TooMany) := ⟨rfl, rfl, rfl, by decide +kernel, rfl, by decide +kernel, by decide +kernel⟩
theorem ok_TooMany (T : Txt K mg A) : FnOk P w K mg base CX0 2 A.i_TooMany A.d_TooMany ["self", "what", "many", "most"] (spErr A.c_TooMany ["what", "many", "most"]) := by
  have G_kept := ok_kept (P := P) (w := w) (base := base) T
  refine T.E_TooMany.F.ok sc_TooMany (fun vs H Q E h => ?_) (fun cdv Ar outer s H vs Q E hr h => ?_)
  · obtain ⟨a, us, rfl, hl, _⟩ := h; exact congrArg Nat.succ hl
  · obtain ⟨a, us, rfl, hl, ha, hA, k⟩ := h
    match us, hl, hA with
    | [u0, u1, u2], _, hA =>
      refine ⟨_, (pss_cons (ps_expr (pe_binit T.B (by rfl) T.gj (pa_cons (pv 0) (pa_cons pe_str pa_nil))))
        (pss_cons (ps_ost (pv 0) (pe_call G_kept (hr.mono (by decide)) (by rfl) T.g_kept T.F_kept.kp T.b_kept .nil pass0 (pa_cons (pv 1) pa_nil)))
        (pss_cons (ps_ost (pv 0) (pe_call G_kept (hr.mono (by decide)) (by rfl) T.g_kept T.F_kept.kp T.b_kept .nil pass0 (pa_cons (pv 2) pa_nil)))
        (pss_one (ps_ost (pv 0) (pe_call G_kept (hr.mono (by decide)) (by rfl) T.g_kept T.F_kept.kp T.b_kept .nil pass0 (pa_cons (pv 3) pa_nil))))))), ?_⟩
      refine base_step T.E_TooMany.E.T rfl ha ?_
      obtain ⟨o0, f0⟩ := hA u0 (by simp)
      obtain ⟨o1, f1⟩ := hA u1 (by simp)
      obtain ⟨o2, f2⟩ := hA u2 (by simp)
      refine ⟨_, rfl, u0, rfl, o0.upd f0, f0, _, rfl, a, A.c_TooMany, rfl, T.E_TooMany.E.T, T.E_TooMany.no "what" (by decide +kernel), .inl ⟨ha, fun dx nx ne => ?_⟩⟩
      have e1 : (upd (upd H dx (exd dx [("what", u0)])) a (exo a A.c_TooMany (some dx))) a = some (exo a A.c_TooMany (some dx)) := upd_same
      have e2 : (upd (upd H dx (exd dx [("what", u0)])) a (exo a A.c_TooMany (some dx))) dx = some (exd dx [("what", u0)]) := by rw [upd_ne ne]; exact upd_same
      have bt : ∀ b o, b ≠ a → H b = some o → (upd (upd H dx (exd dx [("what", u0)])) a (exo a A.c_TooMany (some dx))) b = some o := fun b o nb e => by rw [upd_ne nb, upd_ne (ne_of_none e nx)]; exact e
      generalize (upd (upd H dx (exd dx [("what", u0)])) a (exo a A.c_TooMany (some dx))) = H1 at *
      refine ⟨_, rfl, u1, rfl, o1.upd f1, f1, _, rfl, a, A.c_TooMany, rfl, T.E_TooMany.E.T, T.E_TooMany.no "many" (by decide +kernel), .inr ⟨dx, _, e1, e2, (by show 1 ≤ 900; decide), ?_⟩⟩
      have e1 : upd H1 dx (exd dx [("many", u1), ("what", u0)]) a = some (exo a A.c_TooMany (some dx)) := by rw [upd_ne ne.symm]; exact e1
      have e2 : upd H1 dx (exd dx [("many", u1), ("what", u0)]) dx = some (exd dx [("many", u1), ("what", u0)]) := upd_same
      have bt : ∀ b o, b ≠ a → H b = some o → upd H1 dx (exd dx [("many", u1), ("what", u0)]) b = some o := fun b o nb e => by rw [upd_ne (ne_of_none e nx)]; exact bt b o nb e
      generalize upd H1 dx (exd dx [("many", u1), ("what", u0)]) = H2 at *
      refine ⟨_, rfl, u2, rfl, o2.upd f2, f2, _, rfl, a, A.c_TooMany, rfl, T.E_TooMany.E.T, T.E_TooMany.no "most" (by decide +kernel), .inr ⟨dx, _, e1, e2, (by show 2 ≤ 900; decide), ?_⟩⟩
      have e1 : upd H2 dx (exd dx [("most", u2), ("many", u1), ("what", u0)]) a = some (exo a A.c_TooMany (some dx)) := by rw [upd_ne ne.symm]; exact e1
      have e2 : upd H2 dx (exd dx [("most", u2), ("many", u1), ("what", u0)]) dx = some (exd dx [("most", u2), ("many", u1), ("what", u0)]) := upd_same
      have bt : ∀ b o, b ≠ a → H b = some o → upd H2 dx (exd dx [("most", u2), ("many", u1), ("what", u0)]) b = some o := fun b o nb e => by rw [upd_ne (ne_of_none e nx)]; exact bt b o nb e
      generalize upd H2 dx (exd dx [("most", u2), ("many", u1), ("what", u0)]) = H3 at *
      exact k dx _ nx ne e1 e2 bt
theorem sc_BadCount : FnScope ["self", "index"] ["self", "index"] (defScope s_BadCount) := ⟨rfl, rfl, rfl, by decide +kernel, rfl, by decide +kernel, by decide +kernel⟩
theorem ok_BadCount (T : Txt K mg A) : FnOk P w K mg base CX0 2 A.i_BadCount A.d_BadCount ["self", "index"] (spErr A.c_BadCount ["index"]) := by
  have G_kept := ok_kept (P := P) (w := w) (base := base) T
  refine T.E_BadCount.F.ok sc_BadCount (fun vs H Q E h => ?_) (fun cdv Ar outer s H vs Q E hr h => ?_)
  · obtain ⟨a, us, rfl, hl, _⟩ := h; exact congrArg Nat.succ hl
  · obtain ⟨a, us, rfl, hl, ha, hA, k⟩ := h
    match us, hl, hA with
    | [u0], _, hA =>
      refine ⟨_, (pss_cons (ps_expr (pe_binit T.B (by rfl) T.gj (pa_cons (pv 0) (pa_cons pe_str pa_nil))))
        (pss_one (ps_ost (pv 0) (pe_call G_kept (hr.mono (by decide)) (by rfl) T.g_kept T.F_kept.kp T.b_kept .nil pass0 (pa_cons (pv 1) pa_nil))))), ?_⟩
      refine base_step T.E_BadCount.E.T rfl ha ?_
      obtain ⟨o0, f0⟩ := hA u0 (by simp)
      refine ⟨_, rfl, u0, rfl, o0.upd f0, f0, _, rfl, a, A.c_BadCount, rfl, T.E_BadCount.E.T, T.E_BadCount.no "index" (by decide +kernel), .inl ⟨ha, fun dx nx ne => ?_⟩⟩
      have e1 : (upd (upd H dx (exd dx [("index", u0)])) a (exo a A.c_BadCount (some dx))) a = some (exo a A.c_BadCount (some dx)) := upd_same
      have e2 : (upd (upd H dx (exd dx [("index", u0)])) a (exo a A.c_BadCount (some dx))) dx = some (exd dx [("index", u0)]) := by rw [upd_ne ne]; exact upd_same
      have bt : ∀ b o, b ≠ a → H b = some o → (upd (upd H dx (exd dx [("index", u0)])) a (exo a A.c_BadCount (some dx))) b = some o := fun b o nb e => by rw [upd_ne nb, upd_ne (ne_of_none e nx)]; exact e
      generalize (upd (upd H dx (exd dx [("index", u0)])) a (exo a A.c_BadCount (some dx))) = H1 at *
      exact k dx _ nx ne e1 e2 bt
theorem sc_checkmany : FnScope ["many"] ["many"] (defScope s_checkmany) := ⟨rfl, rfl, rfl, by decide +kernel, rfl, by decide +kernel, by decide +kernel⟩
theorem ok_checkmany (T : Txt K mg A) : FnOk P w K mg base (L2.CX P w) 4 A.a_checkmany A.d_checkmany ["many"] (spMany A.c_TooMany) := by
  have G_TooMany := ok_TooMany (P := P) (w := w) (base := base) T
  refine T.F_checkmany.okX sc_checkmany (fun vs H Q E h => ?_) (fun cdv Ar outer s H vs Q E hr h => ?_)
  · obtain ⟨i, rfl, _⟩ := h; rfl
  · obtain ⟨i, rfl, kq, ke⟩ := h
    refine ⟨_, (pss_one (ps_if (PW.pt (pw_or (pt_cmpR op_lt (pv 0) (pe_glob (v := .int 2) rfl (Classical.choose_spec T.k_FEWEST_SIGNS) ⟨_, rfl⟩) (nomark _)) (pw_or1 (pt_cmpR op_gt (pv 0) (pe_glob (v := .int 26) rfl (Classical.choose_spec T.k_MOST_SIGNS) ⟨_, rfl⟩) (nomark _))))) (pss_one (ps_raise rfl (takes_of rfl rfl rfl rfl) (pmk_oex T.E_TooMany.E.T T.E_TooMany.E.iC T.E_TooMany.E.tI G_TooMany (hr.mono (by decide)) T.E_TooMany.bb .nil pass0 (by rfl) T.E_TooMany.g (pa_cons pe_str (pa_cons (pv 0) (pa_cons (pe_glob (v := .int 26) rfl (Classical.choose_spec T.k_MOST_SIGNS) ⟨_, rfl⟩) pa_nil))))))
        pss_nil)), ?_⟩
    have rd : ¬ (2 ≤ i ∧ i ≤ 26) → _ := fun n => err_read (Q := E) (C := A.c_TooMany) (fs := ["what", "many", "most"]) (us := [.str "signs", .int i, .int 26]) (H := H) rfl (by show 3 ≤ 1000; decide) (fun u hu => by simp only [List.mem_cons, List.not_mem_nil, or_false] at hu; rcases hu with rfl | rfl | rfl <;> intro _ z <;> cases z)
      (fun u hu => by simp only [List.mem_cons, List.not_mem_nil, or_false] at hu; rcases hu with rfl | rfl | rfl <;> constructor) (fun d G s e => ke n d G s e)
    refine ⟨_, rfl, _, _, rfl, rfl, _, rfl, ?_⟩
    by_cases c1 : i < 2
    · rw [decide_eq_true c1]
      exact iteT ⟨_, rfl, rd (by omega)⟩
    · rw [decide_eq_false c1]
      refine iteF ⟨_, rfl, _, _, rfl, rfl, _, rfl, ?_⟩
      by_cases c2 : 26 < i
      · rw [decide_eq_true c2]
        exact iteT ⟨_, rfl, rd (by omega)⟩
      · rw [decide_eq_false c2]
        exact iteF (kq ⟨by omega, by omega⟩)
theorem sc_checkcounts : FnScope ["counts", "index", "count"] ["counts"] (defScope s_checkcounts) := ⟨rfl, rfl, rfl, by decide +kernel, rfl, by decide +kernel, by decide +kernel⟩
theorem ok_checkcounts (T : Txt K mg A) : FnOk P w K mg base (L2.CX P w) 5 A.a_checkcounts A.d_checkcounts ["counts"] (spCheck K A.c_TooMany A.c_BadCount) := by
  have G_checkmany := ok_checkmany (P := P) (w := w) (base := base) T
  have G_BadCount := ok_BadCount (P := P) (w := w) (base := base) T
  have G_isint := ok_isint (P := P) (w := w) (base := base) T
  refine T.F_checkcounts.okX sc_checkcounts (fun vs H Q E h => ?_) (fun cdv Ar outer s H vs Q E hr h => ?_)
  · obtain ⟨a, xs, rfl, _⟩ := h; rfl
  · obtain ⟨a, xs, rfl, hs, ho, kq, k1, k2⟩ := h
    refine ⟨_, (pss_cons (ps_expr (pe_call G_checkmany (hr.mono (by decide)) (by rfl) T.g_checkmany T.F_checkmany.kp T.b_checkmany .nil (passes_call (takes_of rfl rfl rfl rfl) (fun _ _ _ _ h => h)) (pa_cons (pe_callB call_len_seq (by rfl) T.z_len PySem.boot_len (pa_cons (pv 0) pa_nil)) pa_nil)))
      (pss_one (ps_for (passes_of rfl) rfl (pi_or (pi_enum (by rfl) T.z_enumerate (pa_cons (pv 0) pa_nil)) (pi_enumF (by rfl) T.z_enumerate (pa_cons (pv 0) pa_nil))) (pg_tup (by rfl) (pgs_cons (pg_name (i := 1) sc_checkcounts.nd rfl (Or.inl rfl)) (pgs_cons (pg_name (i := 2) sc_checkcounts.nd rfl (Or.inl rfl)) pgs_nil)))
         (pss_one (ps_if (PW.pt (pw_or (pt_not (pt_val (pe_call G_isint (hr.mono (by decide)) (by rfl) T.g_isint T.F_isint.kp T.b_isint .nil pass0 (pa_cons (pv 2) pa_nil)))) (pw_or1 (pt_cmpR op_lt (pv 2) pe_int (nomark _))))) (pss_one (ps_raise rfl (takes_of rfl rfl rfl rfl) (pmk_oex T.E_BadCount.E.T T.E_BadCount.E.iC T.E_BadCount.E.tI G_BadCount (hr.mono (by decide)) T.E_BadCount.bb .nil pass0 (by rfl) T.E_BadCount.g (pa_cons (pv 1) pa_nil))))
           pss_nil))))), ?_⟩
    refine ⟨_, rfl, a, xs, rfl, hs, _, rfl, fun h26 => ?_, fun n d G s e => k1 (fun z => n ⟨by omega, by omega⟩) d G s e⟩
    have h26 : 2 ≤ xs.length ∧ xs.length ≤ 26 := ⟨by omega, by omega⟩
    refine enum_read (a := a) (xs := xs) rfl (enumE hs (fun i ρ G => (∃ y z, ρ = [some (.ref a), y, z]) ∧ Same H G ∧ ∀ j v, j < i → xs[j]? = some v → isC v = true) (fun _ _ _ h => h.2.1) ⟨⟨_, _, rfl⟩, Same.refl H, fun j v hj => absurd hj (Nat.not_lt_zero j)⟩ ?_ ?_)
    · rintro i x ρ G1 t hx ⟨⟨y, z, rfl⟩, sm, hb⟩ nt
      have sm1 : Same H (upd G1 t (.tup [.int (i : Int), x])) := sm.trans (same_new nt)
      have ox := (ho x (List.mem_of_getElem? hx)).same sm1
      refine ⟨t, _, rfl, SqT.of upd_same, rfl, _, _, rfl, _, _, rfl, rfl, ?_⟩
      generalize upd G1 t (.tup [.int (i : Int), x]) = G2 at sm1 ox ⊢
      have rd : isC x = false → _ := fun n => err_read (Q := E) (C := A.c_BadCount) (fs := ["index"]) (us := [.int (i : Int)]) (H := G2) rfl (by show 1 ≤ 1000; decide) (fun u hu => by simp only [List.mem_cons, List.not_mem_nil, or_false] at hu; subst hu; exact fl_int _)
        (fun u hu => by simp only [List.mem_cons, List.not_mem_nil, or_false] at hu; subst hu; exact .int _) (fun d G s e => k2 h26 i ⟨⟨x, hx, n⟩, hb⟩ d G (sm1.trans s) e)
      refine ⟨_, rfl, x, rfl, ox, _, rfl, ?_⟩
      cases hI : isI x with
      | false =>
        have nc : isC x = false := by cases x <;> first | rfl | cases hI
        exact iteT ⟨_, rfl, rd nc⟩
      | true =>
        obtain ⟨n, rfl⟩ : ∃ n, x = .int n := by cases x <;> first | exact ⟨_, rfl⟩ | cases hI
        refine iteF ⟨_, rfl, _, _, rfl, rfl, _, rfl, ?_⟩
        by_cases c : n < 0
        · rw [decide_eq_true c]
          exact iteT ⟨_, rfl, rd (decide_eq_false (by omega))⟩
        · rw [decide_eq_false c]
          refine iteF ⟨⟨_, _, rfl⟩, sm1, fun j v hj hv => ?_⟩
          rcases Nat.lt_succ_iff_lt_or_eq.mp hj with hj | rfl
          · exact hb j v hj hv
          · rw [hx] at hv
            cases hv
            exact decide_eq_true (by omega)
    · rintro ρ G1 ⟨⟨y, z, rfl⟩, sm, hb⟩
      refine kq h26 (fun x hx => ?_) G1 sm
      obtain ⟨j, hj, e⟩ := List.getElem_of_mem hx
      exact hb j x hj (by rw [List.getElem?_eq_getElem hj, e])
end
end Z

set_option Elab.async false
set_option linter.all false
set_option maxRecDepth 100000
set_option maxHeartbeats 8000000
/-! triples; a step may be taken -/
namespace Z
open PySem L2 XV KJ
theorem kitA2 {K : PySem.W.Frag} {t : Value} {A B : Value} {a b : Bool} (h1 : PySem.W.kitOne K t A = some a) (h2 : PySem.W.kitOne K t B = some b) : PySem.W.kitAny K t [A, B] = some (a || b) := by
  unfold PySem.W.kitAny
  rw [h1]
  cases a with
  | true => rfl
  | false =>
    show PySem.W.kitAny K t [B] = _
    unfold PySem.W.kitAny
    rw [h2]
    cases b <;> rfl
/-- a list or a tuple stands at p -/
def SqH (H : Hp) (p : Addr) (xs : List V) : Prop := H p = some (.lst xs) ∨ H p = some (.tup xs)
theorem SqH.same {H G : Hp} {p : Addr} {xs : List V} (h : SqH H p xs) (s : Same H G) : SqH G p xs := h.elim (fun e => .inl (s _ _ e)) fun e => .inr (s _ _ e)
theorem SqH.sq {K : PySem.W.Frag} {H : Hp} {p : Addr} {xs : List V} (h : SqH H p xs) : SqE K H p xs := h.elim (fun e => .inl (SqL.of e)) fun e => .inr (SqT.of e)
def intOf : V → Option Int
  | .int i => some i
  | _ => none
def three : Option Int → Option Int → Option Int → Option (Int × Int × Int)
  | some a, some b, some c => some (a, b, c)
  | _, _, _ => none
def tripleOf : List V → Option (Int × Int × Int)
  | [x, y, z] => three (intOf x) (intOf y) (intOf z)
  | _ => none
/-- v is a step, or what is none -/
inductive Stp (H : Hp) : V → Option (Int × Int × Int) → Prop
  | seq {p : Addr} {xs : List V} (h : SqH H p xs) (hx : ∀ x ∈ xs, Odd H x ∧ flat x) : Stp H (.ref p) (tripleOf xs)
  | atom {v : V} (h : Odd H v) (f : flat v) : Stp H v none
  | dct {p : Addr} {kvs : List (Key × V)} (h : H p = some (.dK kvs)) : Stp H (.ref p) none
theorem Stp.same {H G : Hp} {v : V} {o : Option (Int × Int × Int)} (h : Stp H v o) (s : Same H G) : Stp G v o := by
  cases h with
  | seq h hx => exact .seq (h.same s) fun x hx' => ⟨(hx x hx').1.same s, (hx x hx').2⟩
  | atom h f => exact .atom (h.same s) f
  | dct h => exact .dct (s _ _ h)
theorem triple_all : ∀ {xs : List V}, xs.length = 3 → (tripleOf xs).isSome = (xs.map isI).all id
  | [x, y, z], _ => by
    cases x <;> cases y <;> cases z <;> rfl
theorem triple_len : ∀ {xs : List V}, xs.length ≠ 3 → tripleOf xs = none := fun {xs} h => by
  match xs, h with
  | [], _ => rfl
  | [_], _ => rfl
  | [_, _], _ => rfl
  | [_, _, _], h => exact absurd rfl h
  | _ :: _ :: _ :: _ :: _, _ => rfl
theorem tgt {K : PySem.W.Frag} {H : Hp} {p : Addr} {xs : List V} {n : Nat} {t : TGs} {σ : L2.St} {Q : L2.St → Hp → Prop} (h : SqH H p xs) (hl : xs.length = n) (q : t xs σ H Q) : gTup K n t (.ref p) σ H Q ∨ gLst K n t (.ref p) σ H Q :=
  h.elim (fun e => .inr ⟨p, xs, rfl, SqL.of e, hl, q⟩) fun e => .inl ⟨p, xs, rfl, SqT.of e, hl, q⟩
/-- isinstance(v, (A, B)) of what is a list or tuple -/
def spTrip : Sp := fun vs H Q _ => ∃ v o, vs = [v] ∧ Stp H v o ∧ ∀ G, Same H G → Q (.bl o.isSome) G
def spJoin : Sp := fun vs H Q _ => ∃ (d p : Addr) (D : Dc) (a b c : Int), vs = [.ref d, .ref p] ∧ H d = some (.dK (dk D)) ∧ (D.map (·.1)).Nodup ∧ D.length ≤ 1000 ∧ SqH H p [.int a, .int b, .int c] ∧ ∀ G, Same H G → Q (.bl (okD D a b c)) G
section
variable {P : Program} {w : World} {K : PySem.W.Frag} {mg : Str → Option Value} {base : Heap} {A : Ad}
theorem sc_istriple : FnScope ["value", "part"] ["value"] (defScope s_istriple) := ⟨rfl, rfl, rfl, by decide +kernel, rfl, by decide +kernel, by decide +kernel⟩
theorem ok_istriple (T : Txt K mg A) : FnOk P w K mg base CX0 2 A.a_istriple A.d_istriple ["value"] spTrip := by
  have G_isint := ok_isint (P := P) (w := w) (base := base) T
  refine T.F_istriple.ok sc_istriple (fun vs H Q E h => ?_) (fun cdv Ar outer s H vs Q E hr h => ?_)
  · obtain ⟨v, o, rfl, _⟩ := h; rfl
  · obtain ⟨v, o, rfl, hv, kq⟩ := h
    refine ⟨_, (pss_cons (ps_if (PW.pt (pw_or (pt_not (pt_val (pe_callB call_isiT (by rfl) T.z_isinstance (by decide +kernel) (pa_cons (pv 0) (pa_cons (pe_tup (pa_cons (pe_bltn (v := .ty "list") (by rfl) T.z_list (by decide +kernel) rfl) (pa_cons (pe_bltn (v := .ty "tuple") (by rfl) T.z_tuple (by decide +kernel) rfl) pa_nil))) pa_nil))))) (pw_or1 (pt_cmpR op_ne (pe_callB call_len_seq (by rfl) T.z_len PySem.boot_len (pa_cons (pv 0) pa_nil)) pe_int (nomark _))))) (pss_one (ps_ret pe_bl))
        pss_nil)
      (pss_one (ps_ret (pe_callB (cr_all rfl) (by rfl) T.z_all (by decide +kernel) (pa_cons (pe_lc (own := [("part", 1)]) (by rfl) sc_istriple.nd (pi_or (pi_list (pv 0)) (pi_tup (pv 0))) (blkOk_by (own := [("part", 1)]) (N := ["value", "part"]) (sc := defScope s_istriple) (by decide +kernel)) (fun _ _ _ _ _ => (pg_name (i := 1) sc_istriple.nd rfl (Or.inl rfl))) (fun _ _ _ _ _ => pts_nil) (fun _ _ _ _ _ => (pe_call G_isint (hr.mono (by decide)) (by rfl) T.g_isint T.F_isint.kp T.b_isint .nil pass0 (pa_cons (pv 1) pa_nil)))) pa_nil))))), ?_⟩
    cases hv with
    | atom h f =>
      cases h with
      | non => exact ⟨_, rfl, (by show 2 ≤ sizeLine; decide), fun tt ntt => ⟨_, tt, _, .type "NoneType", _, _, rfl, upd_same, .cons (.ty "list") (.cons (.ty "tuple") .nil), .base .non, kitA2 (a := false) (b := false) (kit_ty (by decide +kernel)) (kit_ty (by decide +kernel)), false, rfl, iteT (kq _ (same_new ntt))⟩⟩
      | bl b => exact ⟨_, rfl, (by show 2 ≤ sizeLine; decide), fun tt ntt => ⟨_, tt, _, .type "bool", _, _, rfl, upd_same, .cons (.ty "list") (.cons (.ty "tuple") .nil), .base (.bl b), kitA2 (a := false) (b := false) (kit_ty (by decide +kernel)) (kit_ty (by decide +kernel)), false, rfl, iteT (kq _ (same_new ntt))⟩⟩
      | int i => exact ⟨_, rfl, (by show 2 ≤ sizeLine; decide), fun tt ntt => ⟨_, tt, _, .type "int", _, _, rfl, upd_same, .cons (.ty "list") (.cons (.ty "tuple") .nil), .base (.int i), kitA2 (a := false) (b := false) (kit_ty (by decide +kernel)) (kit_ty (by decide +kernel)), false, rfl, iteT (kq _ (same_new ntt))⟩⟩
      | str x => exact ⟨_, rfl, (by show 2 ≤ sizeLine; decide), fun tt ntt => ⟨_, tt, _, .type "str", _, _, rfl, upd_same, .cons (.ty "list") (.cons (.ty "tuple") .nil), .base (.str x), kitA2 (a := false) (b := false) (kit_ty (by decide +kernel)) (kit_ty (by decide +kernel)), false, rfl, iteT (kq _ (same_new ntt))⟩⟩
      | lst h => exact absurd rfl (f _)
      | tup h => exact absurd rfl (f _)
      | dct h => exact absurd rfl (f _)
    | dct h =>
      exact ⟨_, rfl, (by show 2 ≤ sizeLine; decide), fun tt ntt => ⟨_, tt, _, .type "dict", _, _, rfl, upd_same, .cons (.ty "list") (.cons (.ty "tuple") .nil), .base (.dK (same_new ntt _ _ h)), kitA2 (a := false) (b := false) (kit_ty (by decide +kernel)) (kit_ty (by decide +kernel)), false, rfl, iteT (kq _ (same_new ntt))⟩⟩
    | @seq p xs h hx =>
      rcases h with h | h
      · refine ⟨_, rfl, (by show 2 ≤ sizeLine; decide), fun tt ntt => ⟨_, tt, _, .type "list", _, _, rfl, upd_same, .cons (.ty "list") (.cons (.ty "tuple") .nil), .base (.lst (same_new ntt _ _ h)), kitA2 (a := true) (b := false) (kit_ty (by decide +kernel)) (kit_ty (by decide +kernel)), true, rfl, iteF ?_⟩⟩
        have s1 := same_new (o := .tup [.ty "list", .ty "tuple"]) ntt
        generalize upd H tt (.tup [.ty "list", .ty "tuple"]) = G1 at s1 ⊢
        have hq : SqE K G1 p xs := (SqH.same (.inl h) s1).sq
        refine ⟨_, rfl, p, xs, rfl, hq, rfl, _, rfl, ?_⟩
        by_cases c : xs.length = 3
        · rw [show (!decide (V.int ((xs.length : Nat) : Int) = V.int 3)) = false from by rw [c]; rfl]
          refine iteF ?_
          refine seq_read (a := p) (xs := xs) rfl (lc_E hq (fun D i G => Same G1 G ∧ G D = some (.lst (((xs.take i).map isI).map V.bl))) (fun _ _ _ h => h.1) (fun D hD => ⟨same_new hD, by simp [upd_same]⟩) ?_ ?_)
          · rintro D i x G2 hD hx2 ⟨s2, hD2⟩
            have ox := (hx x (List.mem_of_getElem? hx2)).1
            refine ⟨rfl, yes_of ?_⟩
            refine ⟨_, rfl, x, rfl, (ox.same s1).same s2, _, hD2, ?_, fun b o e => by rw [upd_ne (ne_of_none e hD)]; exact s2 _ _ e, ?_⟩
            · rw [List.length_map, List.length_map, List.length_take, sizeLine_eq]; omega
            · rw [upd_same, List.take_succ, hx2, List.map_append, List.map_append]; rfl
          · rintro D G2 hD ⟨s2, hD2⟩
            rw [List.take_length] at hD2
            refine ⟨D, xs.map isI, rfl, SqL.of hD2, ?_⟩
            have q := kq G2 (s1.trans s2)
            rw [triple_all c] at q
            exact q
        · rw [show (!decide (V.int ((xs.length : Nat) : Int) = V.int 3)) = true from by
            have : ¬ (V.int ((xs.length : Nat) : Int) = V.int 3) := fun z => c (by injection z with z; omega)
            simp [this]]
          rw [triple_len c] at kq
          exact iteT (kq _ s1)
      · refine ⟨_, rfl, (by show 2 ≤ sizeLine; decide), fun tt ntt => ⟨_, tt, _, .type "tuple", _, _, rfl, upd_same, .cons (.ty "list") (.cons (.ty "tuple") .nil), .base (.tup (same_new ntt _ _ h)), kitA2 (a := false) (b := true) (kit_ty (by decide +kernel)) (kit_ty (by decide +kernel)), true, rfl, iteF ?_⟩⟩
        have s1 := same_new (o := .tup [.ty "list", .ty "tuple"]) ntt
        generalize upd H tt (.tup [.ty "list", .ty "tuple"]) = G1 at s1 ⊢
        have hq : SqE K G1 p xs := (SqH.same (.inr h) s1).sq
        refine ⟨_, rfl, p, xs, rfl, hq, rfl, _, rfl, ?_⟩
        by_cases c : xs.length = 3
        · rw [show (!decide (V.int ((xs.length : Nat) : Int) = V.int 3)) = false from by rw [c]; rfl]
          refine iteF ?_
          refine seq_read (a := p) (xs := xs) rfl (lc_E hq (fun D i G => Same G1 G ∧ G D = some (.lst (((xs.take i).map isI).map V.bl))) (fun _ _ _ h => h.1) (fun D hD => ⟨same_new hD, by simp [upd_same]⟩) ?_ ?_)
          · rintro D i x G2 hD hx2 ⟨s2, hD2⟩
            have ox := (hx x (List.mem_of_getElem? hx2)).1
            refine ⟨rfl, yes_of ?_⟩
            refine ⟨_, rfl, x, rfl, (ox.same s1).same s2, _, hD2, ?_, fun b o e => by rw [upd_ne (ne_of_none e hD)]; exact s2 _ _ e, ?_⟩
            · rw [List.length_map, List.length_map, List.length_take, sizeLine_eq]; omega
            · rw [upd_same, List.take_succ, hx2, List.map_append, List.map_append]; rfl
          · rintro D G2 hD ⟨s2, hD2⟩
            rw [List.take_length] at hD2
            refine ⟨D, xs.map isI, rfl, SqL.of hD2, ?_⟩
            have q := kq G2 (s1.trans s2)
            rw [triple_all c] at q
            exact q
        · rw [show (!decide (V.int ((xs.length : Nat) : Int) = V.int 3)) = true from by
            have : ¬ (V.int ((xs.length : Nat) : Int) = V.int 3) := fun z => c (by injection z with z; omega)
            simp [this]]
          rw [triple_len c] at kq
          exact iteT (kq _ s1)
end
end Z

set_option Elab.async false
set_option linter.all false
set_option maxRecDepth 100000
set_option maxHeartbeats 8000000
/-! a step may be taken: the program's way -/
namespace Z
open PySem L2 XV KJ
section
variable {P : Program} {w : World} {K : PySem.W.Frag} {mg : Str → Option Value} {base : Heap} {A : Ad}
theorem sc_canjoin : FnScope ["weights", "step", "one", "other", "weight", "heavier", "node"] ["weights", "step"] (defScope s_canjoin) := ⟨rfl, rfl, rfl, by decide +kernel, rfl, by decide +kernel, by decide +kernel⟩
theorem ok_canjoin (T : Txt K mg A) : FnOk P w K mg base CX0 1 A.a_canjoin A.d_canjoin ["weights", "step"] spJoin := by
  refine T.F_canjoin.ok sc_canjoin (fun vs H Q E h => ?_) (fun cdv Ar outer s H vs Q E hr h => ?_)
  · obtain ⟨d, p, D, a, b, c, rfl, _⟩ := h; rfl
  · obtain ⟨d, p, D, a, b, c, rfl, hd, nd, hl, hp, kq⟩ := h
    refine ⟨_, (pss_cons (ps_asg (pv 1) (pg_or (pg_tup (by rfl) (pgs_cons (pg_name (i := 2) sc_canjoin.nd rfl (Or.inr rfl)) (pgs_cons (pg_name (i := 3) sc_canjoin.nd rfl (Or.inr rfl)) (pgs_cons (pg_name (i := 4) sc_canjoin.nd rfl (Or.inl rfl)) pgs_nil)))) (pg_lst rfl (pgs_cons (pg_name (i := 2) sc_canjoin.nd rfl (Or.inr rfl)) (pgs_cons (pg_name (i := 3) sc_canjoin.nd rfl (Or.inr rfl)) (pgs_cons (pg_name (i := 4) sc_canjoin.nd rfl (Or.inl rfl)) pgs_nil))))))
      (pss_cons (ps_if (PW.pt (pw_or (pt_cmpR op_eq (pv 2) (pv 3) (nomark _)) (pw_or (pt_cmp (pc_dnotin (hu_of hr) (pv 2) (pv 0))) (pw_or1 (pt_cmp (pc_dnotin (hu_of hr) (pv 3) (pv 0))))))) (pss_one (ps_ret pe_bl))
        pss_nil)
      (pss_cons (ps_if (pt_cmpR op_ne (pv 4) (pe_op op_add (pe_dget (hu_of hr) (pv 0) (pv 2) (fun _ _ => rfl)) (pe_dget (hu_of hr) (pv 0) (pv 3) (fun _ _ => rfl))) (nomark _)) (pss_one (ps_ret pe_bl))
        pss_nil)
      (pss_cons (ps_set (i := 5) sc_canjoin.nd rfl (Or.inr rfl) (pe_callB (call_max2 rfl) (by rfl) T.z_max (by decide +kernel) (pa_cons (pe_dget (hu_of hr) (pv 0) (pv 2) (fun _ _ => rfl)) (pa_cons (pe_dget (hu_of hr) (pv 0) (pv 3) (fun _ _ => rfl)) pa_nil))))
      (pss_one (ps_ret (pe_callB (cr_all rfl) (by rfl) T.z_all (by decide +kernel) (pa_cons (pe_lock (pe_lc (own := [("node", 6)]) (by rfl) sc_canjoin.nd (pi_keys (pv 0)) (blkOk_by (own := [("node", 6)]) (N := ["weights", "step", "one", "other", "weight", "heavier", "node"]) (sc := defScope s_canjoin) (by decide +kernel)) (fun _ _ _ _ _ => (pg_name (i := 6) sc_canjoin.nd rfl (Or.inl rfl))) (fun _ _ _ _ _ => (pts_one (PW.pt (pw_and (pt_cmpR op_ne (pv 6) (pv 2) (nomark _)) (pw_and1 (pt_cmpR op_ne (pv 6) (pv 3) (nomark _))))))) (fun _ _ _ _ _ => (pe_cmpR op_ge (pe_dget (hu_of hr) (pv 0) (pv 6) (fun _ _ => rfl)) (pv 5) (nomark _))))) pa_nil)))))))), ?_⟩
    refine ⟨_, rfl, tgt hp rfl ⟨_, _, rfl, _, _, rfl, _, _, rfl, rfl, ?_⟩⟩
    have ga : ∀ x, DGet H d (.int x) ((D.lookup x).map V.int) := fun x => valV_dk D x ▸ DGet.k (k := Sum.inl x) hd
    refine ⟨_, rfl, _, rfl, rfl, _, rfl, ?_⟩
    by_cases ab : a = b
    · subst ab
      rw [okD_eq] at kq
      rw [show decide (V.int a = V.int a) = true from decide_eq_true rfl]
      exact iteT (kq H (Same.refl H))
    rw [show decide (V.int a = V.int b) = false from decide_eq_false fun z => ab (by injection z)]
    refine iteF ⟨_, rfl, _, rfl, d, _, rfl, ga a, ?_⟩
    cases la : D.lookup a with
    | none =>
      rw [okD_nl la] at kq
      exact ⟨_, rfl, iteT (kq H (Same.refl H))⟩
    | some x =>
      refine ⟨_, rfl, iteF ⟨_, rfl, _, rfl, d, _, rfl, ga b, ?_⟩⟩
      cases lb : D.lookup b with
      | none =>
        rw [okD_nr lb] at kq
        exact ⟨_, rfl, iteT (kq H (Same.refl H))⟩
      | some y =>
        have gx : DGet H d (.int a) (some (.int x)) := by have := ga a; rw [la] at this; exact this
        have gy : DGet H d (.int b) (some (.int y)) := by have := ga b; rw [lb] at this; exact this
        refine ⟨_, rfl, iteF ⟨_, rfl, _, rfl, _, rfl, d, _, rfl, gx, _, rfl, _, rfl, d, _, rfl, gy, _, _, rfl, rfl, rfl, _, rfl, ?_⟩⟩
        by_cases cs : c = x + y
        · rw [show (!decide (V.int c = V.int (x + y))) = false from by rw [cs]; simp]
          refine iteF ⟨_, rfl, _, rfl, d, _, rfl, gx, _, rfl, _, rfl, d, _, rfl, gy, _, _, rfl, ?_⟩
          have mx : (if y > x then y else x) = max x y := by omega
          rw [mx]
          rw [okD_yes la lb ab cs] at kq
          generalize max x y = m at kq ⊢
          refine ⟨d, _, hd, trivial, fun od => ?_⟩
          have hf : upd H d (.frz od (.dK (dk D))) d = some (.frz od (.dK (dk D))) := upd_same
          refine ⟨_, rfl, d, od, rfl, .inl ⟨_, hf, fun L nL => ?_⟩⟩
          have nLd : d ≠ L := ne_of_none hf nL
          refine lc_it walk_keys (fun i G => G d = some (.frz od (.dK (dk D))) ∧ (∀ b' o, b' ≠ d → H b' = some o → G b' = some o) ∧ G L = some (.lst (((cut (D.take i) a b).map fun q => decide (m ≤ q.2)).map V.bl))) ⟨by rw [upd_ne nLd]; exact hf, fun b' o n e => ?_, by rw [upd_same]; rfl⟩ (fun _ _ _ q => q.1) ?_ ?_
          · have e2 : upd H d (.frz od (.dK (dk D))) b' = some o := by rw [upd_ne n]; exact e
            rw [upd_ne (ne_of_none e2 nL)]; exact e2
          · rintro i v G G' hi ⟨q1, q2, q3⟩ ⟨rfl, k, u, hk, rfl⟩
            obtain ⟨⟨k', w'⟩, hD, e⟩ : ∃ q, D[i]? = some q ∧ (Sum.inl q.1, V.int q.2) = (k, u) := by
              unfold dk at hk
              rw [List.getElem?_map] at hk
              obtain ⟨q, h1, h2⟩ := Option.map_eq_some_iff.mp hk
              exact ⟨q, h1, h2⟩
            cases e
            have ct := cut_take (a := a) (b := b) hD
            have gk : DGet G' d (.int k') (some (.int w')) := .inl ⟨dk D, Sum.inl k', .inr ⟨od, q1⟩, rfl, by rw [valV_dk, lookup_mem nd hD]; rfl⟩
            refine ⟨rfl, ?_⟩
            have dl : D.length < sizeLine := Nat.lt_of_le_of_lt hl (by decide)
            refine ⟨_, rfl, _, rfl, rfl, _, rfl, ?_⟩
            by_cases c1 : k' = a
            · rw [show (!decide (kV (Sum.inl k') = V.int a)) = false from by rw [c1]; simp [kV]]
              refine iteF (iteF ⟨q1, q2, ?_⟩)
              rw [ct, if_neg (by simp [c1]), List.append_nil]
              exact q3
            · rw [show (!decide (kV (Sum.inl k') = V.int a)) = true from by simp [kV, c1]]
              refine iteT ⟨_, rfl, _, rfl, rfl, _, rfl, ?_⟩
              by_cases c2 : k' = b
              · rw [show (!decide (kV (Sum.inl k') = V.int b)) = false from by rw [c2]; simp [kV]]
                refine iteF ⟨q1, q2, ?_⟩
                rw [ct, if_neg (by simp [c2]), List.append_nil]
                exact q3
              · rw [show (!decide (kV (Sum.inl k') = V.int b)) = true from by simp [kV, c2]]
                refine iteT ⟨_, rfl, _, rfl, d, _, rfl, gk, _, rfl, _, _, rfl, rfl, _, q3, ?_, by rw [upd_ne nLd]; exact q1, fun b' o n e => ?_, ?_⟩
                · rw [List.length_map, List.length_map]
                  refine Nat.lt_of_le_of_lt ?_ dl
                  exact Nat.le_trans (List.length_filter_le _ _) (by rw [List.length_take]; omega)
                · have e2 : upd H d (.frz od (.dK (dk D))) b' = some o := by rw [upd_ne n]; exact e
                  rw [upd_ne (ne_of_none e2 nL)]; exact q2 b' o n e
                · rw [upd_same, ct, if_pos (by simp [c1, c2]), List.map_append, List.map_append]
                  rfl
          · rintro G ⟨q1, q2, q3⟩
            have e : D.take (dk D).length = D := by rw [dk_len, List.take_length]
            rw [e] at q3
            have n2 : L ≠ d := nLd.symm
            refine ⟨q1, L, _, rfl, SqL.of (by rw [upd_ne n2]; exact q3), kq _ fun b' o e => ?_⟩
            by_cases n : b' = d
            · rw [n, upd_same]; rw [n, hd] at e; exact e
            · rw [upd_ne n]; exact q2 b' o n e
        · rw [show (!decide (V.int c = V.int (x + y))) = true from by simp [cs]]
          rw [okD_ns la lb cs] at kq
          exact iteT (kq H (Same.refl H))
end
end Z

set_option Elab.async false
set_option linter.all false
set_option maxRecDepth 100000
set_option maxHeartbeats 8000000
/-! is_joining -/
namespace Z
open PySem L2 XV KJ
/-- v is a list of steps, or what is none -/
inductive Stps (H : Hp) : V → Option (List (Option (Int × Int × Int))) → Prop
  | seq {p : Addr} {vs : List V} {L : List (Option (Int × Int × Int))} (h : SqH H p vs) (hl : L.length = vs.length) (hx : ∀ (i : Nat) (v : V) (o : Option (Int × Int × Int)), vs[i]? = some v → L[i]? = some o → Stp H v o) : Stps H (.ref p) (some L)
  | atom {v : V} (h : Odd H v) (f : flat v) : Stps H v none
  | dct {p : Addr} {kvs : List (Key × V)} (h : H p = some (.dK kvs)) : Stps H (.ref p) none
theorem Stps.same {H G : Hp} {v : V} {o : Option (List (Option (Int × Int × Int)))} (h : Stps H v o) (s : Same H G) : Stps G v o := by
  cases h with
  | seq h hl hx => exact .seq (h.same s) hl fun i v o a b => (hx i v o a b).same s
  | atom h f => exact .atom (h.same s) f
  | dct h => exact .dct (s _ _ h)
/-- what isinstance tells of it -/
theorem Stps.kind {K : PySem.W.Frag} {H : Hp} {v : V} {o : Option (List (Option (Int × Int × Int)))} (h : Stps H v o) : ∃ u, TyX K H v u ∧ PySem.W.kitAny K u [.type "list", .type "tuple"] = some o.isSome := by
  cases h with
  | seq h _ _ =>
    rcases h with h | h
    · exact ⟨_, .base (.lst h), kitA2 (a := true) (b := false) (kit_ty (by decide +kernel)) (kit_ty (by decide +kernel))⟩
    · exact ⟨_, .base (.tup h), kitA2 (a := false) (b := true) (kit_ty (by decide +kernel)) (kit_ty (by decide +kernel))⟩
  | atom h f => cases h with
    | non => exact ⟨_, .base .non, kitA2 (a := false) (b := false) (kit_ty (by decide +kernel)) (kit_ty (by decide +kernel))⟩
    | bl b => exact ⟨_, .base (.bl b), kitA2 (a := false) (b := false) (kit_ty (by decide +kernel)) (kit_ty (by decide +kernel))⟩
    | int i => exact ⟨_, .base (.int i), kitA2 (a := false) (b := false) (kit_ty (by decide +kernel)) (kit_ty (by decide +kernel))⟩
    | str x => exact ⟨_, .base (.str x), kitA2 (a := false) (b := false) (kit_ty (by decide +kernel)) (kit_ty (by decide +kernel))⟩
    | lst h => exact absurd rfl (f _)
    | tup h => exact absurd rfl (f _)
    | dct h => exact absurd rfl (f _)
  | dct h => exact ⟨_, .base (.dK h), kitA2 (a := false) (b := false) (kit_ty (by decide +kernel)) (kit_ty (by decide +kernel))⟩
def spIsJ (K : PySem.W.Frag) (C1 C2 : Addr) : Sp := fun vs H Q E => ∃ (a : Addr) (xs : List V) (v : V) (S : Option (List (Option (Int × Int × Int)))), vs = [.ref a, v] ∧ SqE K H a xs ∧ (∀ x ∈ xs, Odd H x) ∧ Stps H v S ∧
  (2 ≤ xs.length ∧ xs.length ≤ 26 → ∀ ns : List Int, xs = ns.map V.int → (∀ n ∈ ns, 0 ≤ n) → ∀ G, Same H G → Q (.bl (jd ns S)) G) ∧
  (¬ (2 ≤ xs.length ∧ xs.length ≤ 26) → ∀ d G, Same H G → G d = some (.xd [("most", .int 26), ("many", .int ((xs.length : Nat) : Int)), ("what", .str "signs")]) → E (.ref C1) (some d) G) ∧
  (2 ≤ xs.length ∧ xs.length ≤ 26 → ∀ i : Nat, BadAt xs i → ∀ d G, Same H G → G d = some (.xd [("index", .int (i : Int))]) → E (.ref C2) (some d) G)
theorem ints_of : ∀ {xs : List V}, (∀ x ∈ xs, isC x = true) → ∃ ns : List Int, xs = ns.map V.int ∧ ∀ n ∈ ns, 0 ≤ n
  | [], _ => ⟨[], rfl, fun _ h => nomatch h⟩
  | x :: xs, h => by
    obtain ⟨ns, e, hn⟩ := ints_of fun y hy => h y (List.mem_cons_of_mem _ hy)
    have hx := h x (List.mem_cons_self ..)
    cases x <;> first | cases hx | skip
    rename_i i
    refine ⟨i :: ns, by rw [e]; rfl, fun n hn' => ?_⟩
    rcases List.mem_cons.mp hn' with rfl | hn'
    · exact of_decide_eq_true hx
    · exact hn n hn'
theorem okD_in {D : Dc} {a b c : Int} (h : okD D a b c = true) : a ≠ b ∧ (∃ x, D.lookup a = some x) ∧ ∃ y, D.lookup b = some y := by
  unfold okD at h
  split at h
  · rename_i x y hx hy
    simp only [Bool.and_eq_true, decide_eq_true_eq] at h
    exact ⟨h.1.1, ⟨x, hx⟩, y, hy⟩
  · cases h
theorem cut_len (D : Dc) (a b : Int) : (cut D a b).length ≤ D.length := List.length_filter_le _ _
theorem lookup_flt {D : Dc} {a b : Int} (h : b ≠ a) : (D.filter fun q => !decide (q.1 = a)).lookup b = D.lookup b := by
  induction D with
  | nil => rfl
  | cons p D ih =>
    rw [List.filter_cons]
    by_cases e : p.1 = a
    · rw [if_neg (by simp [e]), ih, List.lookup_cons]
      have : (b == p.1) = false := by rw [beq_eq_false_iff_ne, e]; exact h
      rw [this]
    · rw [if_pos (by simp [e]), List.lookup_cons, List.lookup_cons, ih]
/-- what stays true of the dict: its keys are numbers below k, each once -/
def Keys (D : Dc) (k : Nat) : Prop := (D.map (·.1)).Nodup ∧ (∀ q ∈ D, q.1 < (k : Int)) ∧ D.length ≤ k
theorem Keys.nx {D : Dc} {k : Nat} (h : Keys D k) (a b c : Int) : (cut D a b).lookup (k : Int) = none ∧ Keys (cut D a b ++ [((k : Int), c)]) (k + 1) := by
  obtain ⟨nd, lt, hl⟩ := h
  have sub : (cut D a b).map (·.1) |>.Sublist (D.map (·.1)) := (List.filter_sublist).map _
  have l2 : ∀ q ∈ cut D a b, q.1 < (k : Int) := fun q hq => lt q (List.mem_filter.mp hq).1
  refine ⟨lookup_none fun q hq z => by have := l2 q hq; omega, ?_, fun q hq => ?_, ?_⟩
  · rw [List.map_append, List.nodup_append]
    refine ⟨sub.nodup nd, by simp, fun x hx y hy => ?_⟩
    obtain ⟨q, hq, rfl⟩ := List.mem_map.mp hx
    have := l2 q hq
    simp at hy
    omega
  · rcases List.mem_append.mp hq with hq | hq
    · have := l2 q hq; omega
    · simp at hq; subst hq; show (k : Int) < _; omega
  · rw [List.length_append]
    have := cut_len D a b
    show _ + 1 ≤ _
    omega
theorem Keys.d0 (ns : List Int) : Keys (d0 ns) ns.length := by
  rw [d0_dT]
  refine ⟨?_, fun q hq => ?_, by simp [dT]⟩
  · rw [keys_dT]
    exact List.Pairwise.map _ (fun i j (h : i ≠ j) z => h (Int.ofNat.inj z)) (List.nodup_range (n := ns.length))
  · obtain ⟨t, ht, rfl⟩ := List.mem_map.mp hq
    have := List.mem_range.mp ht
    show ((t : Nat) : Int) < _
    omega
theorem int_some {x : V} {i : Int} (h : intOf x = some i) : x = .int i := by
  cases x <;> first | (cases h; rfl; done) | (cases h; done)
theorem three_some {p q r : Option Int} {a b c : Int} (h : three p q r = some (a, b, c)) : p = some a ∧ q = some b ∧ r = some c := by
  cases p <;> cases q <;> cases r <;> first | (cases h; exact ⟨rfl, rfl, rfl⟩; done) | (cases h; done)
theorem triple_some : ∀ {xs : List V} {a b c : Int}, tripleOf xs = some (a, b, c) → xs = [.int a, .int b, .int c]
  | [x, y, z], a, b, c, h => by
    obtain ⟨h1, h2, h3⟩ := three_some (show three (intOf x) (intOf y) (intOf z) = _ from h)
    rw [int_some h1, int_some h2, int_some h3]
  | [], _, _, _, h => nomatch h
  | [_], _, _, _, h => nomatch h
  | [_, _], _, _, _, h => nomatch h
  | _ :: _ :: _ :: _ :: _, _, _, _, h => nomatch h
theorem stp_some {H : Hp} {v : V} {a b c : Int} (h : Stp H v (some (a, b, c))) : ∃ q, v = .ref q ∧ SqH H q [.int a, .int b, .int c] := by
  generalize e : some (a, b, c) = o at h
  cases h with
  | seq h hx => exact ⟨_, rfl, triple_some e.symm ▸ h⟩
  | atom h f => cases e
  | dct h => cases e
section
variable {P : Program} {w : World} {K : PySem.W.Frag} {mg : Str → Option Value} {base : Heap} {A : Ad}
theorem sc_isjoining : FnScope ["counts", "steps", "many", "weights", "at", "step", "one", "other", "weight"] ["counts", "steps"] (defScope s_isjoining) := ⟨rfl, rfl, rfl, by decide +kernel, rfl, by decide +kernel, by decide +kernel⟩
theorem ok_isjoining (T : Txt K mg A) : FnOk P w K mg base (L2.CX P w) 6 A.a_isjoining A.d_isjoining ["counts", "steps"] (spIsJ K A.c_TooMany A.c_BadCount) := by
  have G_checkcounts := ok_checkcounts (P := P) (w := w) (base := base) T
  have G_istriple := ok_istriple (P := P) (w := w) (base := base) T
  have G_canjoin := ok_canjoin (P := P) (w := w) (base := base) T
  refine T.F_isjoining.okX sc_isjoining (fun vs H Q E h => ?_) (fun cdv Ar outer s H vs Q E hr h => ?_)
  · obtain ⟨a, xs, v, S, rfl, _⟩ := h; rfl
  · obtain ⟨a, xs, v, S, rfl, hs, ho, hv, kq, k1, k2⟩ := h
    refine ⟨_, (pss_cons (ps_expr (pe_call G_checkcounts (hr.mono (by decide)) (by rfl) T.g_checkcounts T.F_checkcounts.kp T.b_checkcounts .nil (passes_call (takes_of rfl rfl rfl rfl) (fun _ _ _ _ h => h)) (pa_cons (pv 0) pa_nil)))
      (pss_cons (ps_set (i := 2) sc_isjoining.nd rfl (Or.inl rfl) (pe_callB call_len_seq (by rfl) T.z_len PySem.boot_len (pa_cons (pv 0) pa_nil)))
      (pss_cons (ps_if (PW.pt (pw_or (pt_not (pt_val (pe_callB call_isiT (by rfl) T.z_isinstance (by decide +kernel) (pa_cons (pv 1) (pa_cons (pe_tup (pa_cons (pe_bltn (v := .ty "list") (by rfl) T.z_list (by decide +kernel) rfl) (pa_cons (pe_bltn (v := .ty "tuple") (by rfl) T.z_tuple (by decide +kernel) rfl) pa_nil))) pa_nil))))) (pw_or1 (pt_cmpR op_ne (pe_callB call_len_seq (by rfl) T.z_len PySem.boot_len (pa_cons (pv 1) pa_nil)) (pe_op op_sub (pv 2) pe_int) (nomark _))))) (pss_one (ps_ret pe_bl))
        pss_nil)
      (pss_cons (ps_set (i := 3) sc_isjoining.nd rfl (Or.inl rfl) (pe_dictEnumE (i := 0) (by rfl) (by rfl) T.z_dict (by rfl) T.z_enumerate (pa_cons (pv 0) pa_nil)))
      (pss_cons (ps_for (passes_of rfl) rfl (pi_or (pi_enum (by rfl) T.z_enumerate (pa_cons (pv 1) pa_nil)) (pi_enumF (by rfl) T.z_enumerate (pa_cons (pv 1) pa_nil))) (pg_tup (by rfl) (pgs_cons (pg_name (i := 4) sc_isjoining.nd rfl (Or.inl rfl)) (pgs_cons (pg_name (i := 5) sc_isjoining.nd rfl (Or.inl rfl)) pgs_nil)))
         (pss_cons (ps_if (PW.pt (pw_or (pt_not (pt_val (pe_call G_istriple (hr.mono (by decide)) (by rfl) T.g_istriple T.F_istriple.kp T.b_istriple .nil pass0 (pa_cons (pv 5) pa_nil)))) (pw_or1 (pt_not (pt_val (pe_call G_canjoin (hr.mono (by decide)) (by rfl) T.g_canjoin T.F_canjoin.kp T.b_canjoin .nil pass0 (pa_cons (pv 3) (pa_cons (pv 5) pa_nil)))))))) (pss_one (ps_ret pe_bl))
           pss_nil)
         (pss_cons (ps_asg (pv 5) (pg_or (pg_tup (by rfl) (pgs_cons (pg_name (i := 6) sc_isjoining.nd rfl (Or.inl rfl)) (pgs_cons (pg_name (i := 7) sc_isjoining.nd rfl (Or.inl rfl)) (pgs_cons (pg_name (i := 8) sc_isjoining.nd rfl (Or.inl rfl)) pgs_nil)))) (pg_lst rfl (pgs_cons (pg_name (i := 6) sc_isjoining.nd rfl (Or.inl rfl)) (pgs_cons (pg_name (i := 7) sc_isjoining.nd rfl (Or.inl rfl)) (pgs_cons (pg_name (i := 8) sc_isjoining.nd rfl (Or.inl rfl)) pgs_nil))))))
         (pss_cons (ps_ddel2 (pv 3) (pv 6) (pv 3) (pv 7))
         (pss_one (ps_dput (hu_of hr) (pv 3) (pe_op op_add (pv 2) (pv 4)) (pv 8) rfl))))))
      (pss_one (ps_ret pe_bl))))))), ?_⟩
    refine ⟨_, rfl, a, xs, rfl, hs, ho, fun h26 hC G0 s0 => ?_, k1, k2⟩
    obtain ⟨ns, rfl, hn⟩ := ints_of hC
    rw [List.length_map] at h26
    have kq := kq (by rw [List.length_map]; exact h26) ns rfl hn
    refine ⟨_, rfl, a, _, rfl, hs.same s0, ?_⟩
    rw [List.length_map]
    refine ⟨_, rfl, (by show 2 ≤ sizeLine; decide), fun tt ntt => ?_⟩
    have s1 := s0.trans (same_new (o := .tup [.ty "list", .ty "tuple"]) ntt)
    obtain ⟨u, hty, hkit⟩ := (hv.same s1).kind (K := K)
    have et : upd G0 tt (.tup [.ty "list", .ty "tuple"]) tt = _ := upd_same
    refine ⟨_, tt, _, u, _, _, rfl, et, .cons (.ty "list") (.cons (.ty "tuple") .nil), hty, hkit, _, rfl, ?_⟩
    clear et hty hkit
    generalize upd G0 tt (.tup [.ty "list", .ty "tuple"]) = G1 at s1 ⊢
    have hv1 := hv.same s1
    cases hv1 with
    | atom _ _ => exact iteT (kq G1 s1)
    | dct _ => exact iteT (kq G1 s1)
    | @seq p vs L h hl hx =>
    refine iteF ⟨_, rfl, p, vs, rfl, h.sq, _, rfl, _, _, rfl, rfl, rfl, _, rfl, ?_⟩
    by_cases cl : vs.length = ns.length - 1
    · rw [show (!decide (V.int ((vs.length : Nat) : Int) = V.int ((ns.length : Int) - 1))) = false from by
        rw [show ((ns.length : Int) - 1) = ((vs.length : Nat) : Int) from by omega]; simp]
      refine iteF ⟨a, _, rfl, hs.same s1, fun d nd => ?_⟩
      rw [enum_dk]
      have e0 : jd ns (some L) = run (d0 ns) ns.length L := by
        show (decide (L.length = ns.length - 1) && run (d0 ns) ns.length L) = _
        rw [decide_eq_true (show L.length = ns.length - 1 by omega), Bool.true_and]
      rw [e0] at kq
      have k0 := Keys.d0 ns
      refine enum_read (a := p) (xs := vs) rfl (enumB (B := G1) (h.sq) (fun i ρ G => (∃ y1 y2 y3 y4 y5, ρ = [some (.ref a), some (.ref p), some (.int (ns.length : Nat)), some (.ref d), y1, y2, y3, y4, y5]) ∧ Same G1 G ∧ ∃ D, G d = some (.dK (dk D)) ∧ Keys D (ns.length + i) ∧ run (d0 ns) ns.length L = run D (ns.length + i) (L.drop i)) (fun _ _ _ h => h.2.1)
        ⟨⟨_, _, _, _, _, rfl⟩, same_new nd, d0 ns, upd_same, k0, rfl⟩ ?_ ?_)
      · rintro i x ρ G t hxi ⟨⟨y1, y2, y3, y4, y5, rfl⟩, sm, D, hD, hk, hr0⟩ nt
        have li : i < L.length := by have := (List.getElem?_eq_some_iff.mp hxi).1; omega
        have hLi : L[i]? = some L[i] := List.getElem?_eq_getElem li
        have hdrop : L.drop i = L[i] :: L.drop (i + 1) := List.drop_eq_getElem_cons li
        rw [hdrop] at hr0
        have hD1 : upd G t (.tup [.int (i : Int), x]) d = some (.dK (dk D)) := by rw [upd_ne (ne_of_none hD nt)]; exact hD
        have sm1 : Same G1 (upd G t (.tup [.int (i : Int), x])) := sm.trans (same_new nt)
        refine ⟨t, _, rfl, SqT.of upd_same, rfl, _, _, rfl, _, _, rfl, rfl, ?_⟩
        clear hD sm nt
        generalize upd G t (.tup [.int (i : Int), x]) = G2 at hD1 sm1 ⊢
        refine ⟨_, rfl, x, L[i], rfl, (hx i x L[i] hxi hLi).same sm1, fun G3 s3 => ⟨_, rfl, ?_⟩⟩
        have st3 := (hx i x L[i] hxi hLi).same (sm1.trans s3)
        rw [hr0] at kq
        generalize L[i] = o at st3 kq hr0 ⊢
        cases o with
        | none => exact iteT (kq G3 (s1.trans (sm1.trans s3)))
        | some abc =>
        obtain ⟨a', b', c'⟩ := abc
        obtain ⟨q, rfl, hq⟩ := stp_some st3
        refine iteF ⟨_, rfl, _, rfl, d, q, D, a', b', c', rfl, s3 _ _ hD1, hk.1, by have := hk.2.2; omega, hq, fun G4 s4 => ⟨_, rfl, ?_⟩⟩
        have e1 : run D (ns.length + i) (some (a', b', c') :: L.drop (i + 1)) = (okD D a' b' c' && run (cut D a' b' ++ [(((ns.length + i : Nat) : Int), c')]) (ns.length + i + 1) (L.drop (i + 1))) := rfl
        rw [e1] at kq hr0
        cases hok : okD D a' b' c' with
        | false =>
          rw [hok] at kq
          exact iteT (kq G4 (s1.trans ((sm1.trans s3).trans s4)))
        | true =>
        rw [hok, Bool.true_and] at hr0
        obtain ⟨ab, ⟨xa, ha⟩, yb, hb⟩ := okD_in hok
        obtain ⟨hnone, hk'⟩ := hk.nx a' b' c'
        refine iteF ⟨_, rfl, tgt (hq.same s4) rfl ⟨_, _, rfl, _, _, rfl, _, _, rfl, rfl, ?_⟩⟩
        refine ⟨_, rfl, _, rfl, d, dk D, .inl a', rfl, s4 _ _ (s3 _ _ hD1), rfl, by rw [valV_dk, ha]; rfl, ?_⟩
        refine ⟨_, rfl, _, rfl, d, _, .inl b', rfl, upd_same, rfl, by rw [drop_dk, valV_dk, lookup_flt (fun z => ab z.symm), hb]; rfl, ?_⟩
        refine ⟨_, rfl, _, rfl, _, rfl, _, rfl, _, _, rfl, rfl, d, _, rfl, .inl ⟨_, .inl ((ns.length + i : Nat) : Int), upd_same, rfl, ?_, rfl⟩, ⟨_, _, _, _, _, rfl⟩, ?_, cut D a' b' ++ [(((ns.length + i : Nat) : Int), c')], ?_, hk', hr0⟩
        · rw [drop_dk2, dk_len]
          have := cut_len D a' b'
          have := hk.2.2
          rw [sizeLine_eq]
          omega
        · intro b o e
          have n1 : b ≠ d := ne_of_none e nd
          rw [upd_ne n1, upd_ne n1, upd_ne n1]
          exact s4 _ _ (s3 _ _ (sm1 _ _ e))
        · rw [upd_same, drop_dk2, put_dk _ hnone]
      · rintro ρ G ⟨⟨y1, y2, y3, y4, y5, rfl⟩, sm, D, hD, hk, hr0⟩
        have kq := kq G (s1.trans sm)
        rw [hr0, List.drop_eq_nil_of_le (by omega)] at kq
        exact kq
    · rw [show (!decide (V.int ((vs.length : Nat) : Int) = V.int ((ns.length : Int) - 1))) = true from by
        have : ¬ (V.int ((vs.length : Nat) : Int) = V.int ((ns.length : Int) - 1)) := fun z => cl (by injection z with z; omega)
        simp [this]]
      have e0 : jd ns (some L) = false := by
        show (decide (L.length = ns.length - 1) && run (d0 ns) ns.length L) = _
        rw [decide_eq_false (show ¬ L.length = ns.length - 1 by omega), Bool.false_and]
      rw [e0] at kq
      exact iteT (kq G1 s1)
end
end Z

set_option Elab.async false
set_option linter.all false
set_option maxRecDepth 100000
set_option maxHeartbeats 8000000
/-! the draws -/
namespace Z
open PySem L2 XV KJ
theorem log_lt {n k : Nat} (h : n < 2 ^ k) (hk : 0 < k) : n.log2 < k := by
  by_cases e : n = 0
  · subst e; simpa using hk
  · exact (Nat.log2_lt e).mpr h
def But (d : Addr) (H H' : Hp) : Prop := ∀ x o, x ≠ d → H x = some o → H' x = some o
theorem But.upd {d : Addr} {H H' : Hp} {o : HO} (a : But d H H') : But d H (upd H' d o) := fun x u n h => by rw [upd_ne n]; exact a x u n h
theorem But.of {d : Addr} {H H' : Hp} (s : Same H H') : But d H H' := fun x o _ h => s x o h
theorem But.trans {d : Addr} {H H1 H2 : Hp} (a : But d H H1) (b : But d H1 H2) : But d H H2 := fun x o n h => b x o n (a x o n h)
theorem But.new {d p : Addr} {H H' : Hp} {o : HO} (a : But d H H') (h : H' p = none) (hd : H' d ≠ none) : But d H (L2.upd H' p o) := fun x u n z => by
  have q := a x u n z
  rw [upd_ne (ne_of_none q h)]
  exact q
/-- the pen's dict -/
def penK (l : Addr) (k m : Int) : List (Key × V) := [(.inr "cells", .ref l), (.inr "next", .int k), (.inr "left", .int m)]
theorem pen_merge (l : Addr) (k m : Int) : mergeK [] (penK l k m) = penK l k m := by kernel_rfl
theorem pen_c (l : Addr) (k m : Int) : valV (penK l k m) (Sum.inr "cells" : Key) = some (.ref l) := by kernel_rfl
theorem pen_o (l : Addr) (k m : Int) : valV (penK l k m) (Sum.inr "next" : Key) = some (.int k) := by kernel_rfl
theorem pen_l (l : Addr) (k m : Int) : valV (penK l k m) (Sum.inr "left" : Key) = some (.int m) := by kernel_rfl
theorem put_o (l : Addr) (k m k' : Int) : putK (penK l k m) (Sum.inr "next" : Key) (.int k') = penK l k' m := by kernel_rfl
theorem put_l (l : Addr) (k m m' : Int) : putK (penK l k m) (Sum.inr "left" : Key) (.int m') = penK l k m' := by kernel_rfl
/-- a pen at d: its cells, k of them opened, what is left -/
def Pen (H : Hp) (d l : Addr) (k : Nat) : Prop := ∃ (ns : List Int) (m : Int), H d = some (.dK (penK l (k : Int) m)) ∧ H l = some (.lst (ns.map V.int)) ∧ 0 ≤ m ∧ ns.length ≤ 63
theorem Pen.some {H : Hp} {d l : Addr} {k : Nat} (h : Pen H d l k) : ∃ x, H d = some (.dK ((Sum.inr "cells", V.ref l) :: x)) := by
  obtain ⟨ns, m, h, _⟩ := h
  exact ⟨_, h⟩
theorem Pen.cells {H : Hp} {d l : Addr} {k : Nat} (h : Pen H d l k) : ∃ xs, H l = Option.some (HO.lst xs) := by
  obtain ⟨ns, m, _, h, _⟩ := h
  exact ⟨_, h⟩
theorem Pen.same {H H' : Hp} {d l : Addr} {k : Nat} (h : Pen H d l k) (s : Same H H') : Pen H' d l k := by
  obtain ⟨ns, m, h1, h2, h3⟩ := h
  exact ⟨ns, m, s _ _ h1, s _ _ h2, h3⟩
theorem Pen.upd {H : Hp} {d l p : Addr} {k : Nat} {o : HO} (h : Pen H d l k) (h1 : d ≠ p) (h2 : l ≠ p) : Pen (upd H p o) d l k := by
  obtain ⟨ns, m, e1, e2, e3⟩ := h
  exact ⟨ns, m, by rw [upd_ne h1]; exact e1, by rw [upd_ne h2]; exact e2, e3⟩
theorem mul_l {i j : Int} (h1 : -(2 ^ 64) < i) (h2 : i < 2 ^ 64) : CMul i j := .inl ⟨h1, h2⟩
theorem mul_m {i j p : Int} (h : 0 < p) (hp : p ≤ 2 ^ 64) : CMul (i % p) j :=
  .inl ⟨Int.lt_of_lt_of_le (by decide) (Int.emod_nonneg _ (by omega)), Int.lt_of_lt_of_le (Int.emod_lt_of_pos _ h) hp⟩
theorem dp_ints {K : PySem.W.Frag} {H : Hp} : ∀ ns : List Int, DpAll K H (ns.map V.int) (ns.map PyData.int)
  | [] => .nil
  | n :: ns => .cons (.int n) (dp_ints ns)
theorem lay_ints : ∀ ns : List Int, PyData.canLayAll0 (ns.map PyData.int) = true ∧ PyData.depthAll (ns.map PyData.int) = 0
  | [] => by simp [PyData.canLayAll0, PyData.depthAll]
  | n :: ns => by
    obtain ⟨h1, h2⟩ := lay_ints ns
    simp [PyData.canLayAll0, PyData.canLay0, PyData.depthAll, PyData.depth, h1, h2]
theorem shaped_ints (ns : List Int) : SeqAt.shaped (.list (ns.map PyData.int)) = true := by
  obtain ⟨h1, h2⟩ := lay_ints ns
  simp [SeqAt.shaped, PyData.canLay0, PyData.depth, h1, h2]
theorem abs_nn (z : Int) : 0 ≤ (if z < 0 then -z else z) := by split <;> omega
/-! ### the promises -/
def spPen (K : PySem.W.Frag) : Sp := fun vs H Q _ => ∃ (a : Addr) (ns : List Int), vs = [.ref a] ∧ SqL K H a (ns.map V.int) ∧ ns.length ≤ 63 ∧ ∀ d l H', Pen H' d l 0 → Same H H' → H d = none → Q (.ref d) H'
def spDraw : Sp := fun vs H Q _ => ∃ (d l : Addr) (b : Int) (k : Nat), vs = [.ref d, .int b] ∧ Pen H d l k ∧ 0 < b ∧ b < 1000000 ∧ k ≤ 1000000 ∧ ∀ v H' k', 0 ≤ v → v < b → k' ≤ k + 1 → Pen H' d l k' → But d H H' → Q (.int v) H'
def spPick : Sp := fun vs H Q _ => ∃ (d l p : Addr) (xs : List V) (k : Nat), vs = [.ref d, .ref p] ∧ Pen H d l k ∧ H p = some (.lst xs) ∧ 0 < xs.length ∧ xs.length < 1000 ∧ k ≤ 1000000 ∧
  ∀ v H' k', v ∈ xs → k' ≤ k + 1 → Pen H' d l k' → But d H H' → Q v H'
section
variable {P : Program} {w : World} {K : PySem.W.Frag} {mg : Str → Option Value} {base : Heap} {A : Ad}
theorem sc_penof : FnScope ["_law_script"] ["_law_script"] (defScope s_penof) := ⟨rfl, rfl, rfl, by decide +kernel, rfl, by decide +kernel, by decide +kernel⟩
theorem ok_pen (T : Txt K mg A) : FnOk P w K mg base CX0 1 A.a_penof A.d_penof ["_law_script"] (spPen K) := by
  refine T.F_penof.ok sc_penof (fun vs H Q E h => ?_) (fun cdv A outer s H vs Q E hr h => ?_)
  · obtain ⟨a, ns, rfl, _⟩ := h; rfl
  · obtain ⟨a, ns, rfl, hs, hl, k⟩ := h
    refine ⟨_, (pss_one (ps_ret (pe_disp (pps_cons pe_str (pe_callTy call_list_of (by rfl) T.z_list (by decide +kernel) (pa_cons (pe_slice sl_list (pv 0) po_none (po_some pe_int)) pa_nil)) (pps_cons pe_str pe_int (pps_cons pe_str pe_int pps_nil))) (by rfl) (by rfl) (fun z => by cases z) (by decide)))), ?_⟩
    intro p np
    have s1 : ∀ o, Same H (upd H p o) := fun o b u e => by rw [upd_ne (ne_of_none e np)]; exact e
    refine ⟨_, rfl, 63, rfl, a, _, rfl, (s1 _).seq hs, fun q nq => ⟨q, _, rfl, .inl (SqL.of upd_same), fun l nl => ?_⟩⟩
    have nqp : p ≠ q := ne_of_none upd_same nq
    have nlp : p ≠ l := by
      refine ne_of_none (H := upd (upd H p (.dK [])) q (.lst _)) (o := .dK []) ?_ nl
      rw [upd_ne nqp]; exact upd_same
    refine ⟨?_, penK l 0 0, rfl, (by show 3 ≤ 15; decide), ?_⟩
    · rw [upd_ne nlp, upd_ne nqp]; exact upd_same
    · rw [pen_merge]
      refine k p l _ ⟨(ns.drop (HT.sIx (ns.map V.int).length 0 none)).take (HT.sIx (ns.map V.int).length (ns.map V.int).length (some 63) - HT.sIx (ns.map V.int).length 0 none), 0, upd_same, ?_, Int.le_refl 0, ?_⟩ ?_ np
      · rw [upd_ne nlp.symm, upd_same]
        unfold cutV
        rw [List.map_take, List.map_drop]
      · rw [List.length_take, List.length_drop]; omega
      · intro b u e
        have nb := ne_of_none e np
        have e1 : upd H p (.dK []) b = some u := by rw [upd_ne nb]; exact e
        have nbq := ne_of_none e1 nq
        have e2 : (upd (upd H p (.dK [])) q (.lst (cutV (ns.map V.int) none (some 63)))) b = some u := by rw [upd_ne nbq]; exact e1
        rw [upd_ne nb, upd_ne (ne_of_none e2 nl)]
        exact e2
theorem sc_draw : FnScope ["_law_pen", "_law_many", "_law_digit", "_law_index", "_law_size", "_law_cell", "_law_mixed"] ["_law_pen", "_law_many"] (defScope s_draw) := ⟨rfl, rfl, rfl, by decide +kernel, rfl, by decide +kernel, by decide +kernel⟩
theorem ok_draw (T : Txt K mg A) : FnOk P w K mg base CX0 1 A.a_draw A.d_draw ["_law_pen", "_law_many"] spDraw := by
  refine T.F_draw.ok sc_draw (fun vs H Q E h => ?_) (fun cdv A outer s H vs Q E hr h => ?_)
  · obtain ⟨d, l, b, k, rfl, _⟩ := h; rfl
  · obtain ⟨d, l, b, k, rfl, ⟨ns, m, hd, hc, hm, hn⟩, b0, b1, hk, kq⟩ := h
    have hu := hu_of hr
    have gL := pen_l l k m ▸ DGet.k (k := Sum.inr "left") hd
    have gO := pen_o l k m ▸ DGet.k (k := Sum.inr "next") hd
    have gC := pen_c l k m ▸ DGet.k (k := Sum.inr "cells") hd
    have ndl : l ≠ d := ne_of hc hd (fun z => nomatch z)
    refine ⟨_, (pss_cons (ps_if (pt_cmpR op_gt (pe_dget hu (pv 0) pe_str (fun _ _ => rfl)) pe_int (nomark _)) (pss_cons (ps_set (i := 2) sc_draw.nd rfl (Or.inl rfl) (pe_op op_mod (pe_callTy call_int1 (by rfl) T.z_int (by decide +kernel) (pa_cons (pe_dget hu (pv 0) pe_str (fun _ _ => rfl)) pa_nil)) (pv 1)))
       (pss_cons (ps_dput hu (pv 0) pe_str (pe_op op_fdiv (pe_dget hu (pv 0) pe_str (fun _ _ => rfl)) (pv 1)) rfl)
       (pss_one (ps_ret (pv 2)))))
        pss_nil)
      (pss_cons (ps_par (i := 3) (j := 4) (by rfl) sc_draw.nd rfl rfl (by decide) rfl rfl (pa_cons (pe_dget hu (pv 0) pe_str (fun _ _ => rfl)) (pa_cons (pe_callB call_len_seq (by rfl) T.z_len PySem.boot_len (pa_cons (pe_dget hu (pv 0) pe_str (fun _ _ => rfl)) pa_nil)) pa_nil)) (by rfl))
      (pss_cons (ps_dput hu (pv 0) pe_str (pe_op op_add (pv 3) pe_int) rfl)
      (pss_cons (ps_if (pt_cmpR op_eq (pv 4) pe_int (nomark _)) (pss_one (ps_ret (pe_op op_mod (pe_callTy call_int1 (by rfl) T.z_int (by decide +kernel) (pa_cons (pe_op op_add (pe_op op_mul pe_int (pv 3)) pe_int) pa_nil)) (pv 1))))
        pss_nil)
      (pss_cons (ps_set (i := 5) sc_draw.nd rfl (Or.inl rfl) (pe_ix ix_list (pe_dget hu (pv 0) pe_str (fun _ _ => rfl)) (pe_op op_mod (pe_callTy call_int1 (by rfl) T.z_int (by decide +kernel) (pa_cons (pv 3) pa_nil)) (pv 4)) (fun _ _ => rfl)))
      (pss_cons (ps_if (PW.pt (pw_and (pt_cmpR op_lt (pv 3) (pv 4) (nomark _)) (pw_and1 (pt_cmpR op_ge (pe_callB call_abs (by rfl) T.z_abs (by decide +kernel) (pa_cons (pv 5) pa_nil)) (pe_op op_pow pe_int pe_int) (nomark _))))) (pss_cons (ps_dput hu (pv 0) pe_str (pe_op op_fdiv (pe_op op_sub (pe_callB call_abs (by rfl) T.z_abs (by decide +kernel) (pa_cons (pv 5) pa_nil)) (pe_op op_pow pe_int pe_int)) (pv 1)) rfl)
       (pss_one (ps_ret (pe_op op_mod (pe_callTy call_int1 (by rfl) T.z_int (by decide +kernel) (pa_cons (pe_op op_sub (pe_callB call_abs (by rfl) T.z_abs (by decide +kernel) (pa_cons (pv 5) pa_nil)) (pe_op op_pow pe_int pe_int)) pa_nil)) (pv 1)))))
        pss_nil)
      (pss_cons (ps_set (i := 6) sc_draw.nd rfl (Or.inl rfl) (pe_op op_add (pe_op op_mul (pe_op op_mod (pe_callTy call_int1 (by rfl) T.z_int (by decide +kernel) (pa_cons (pv 5) pa_nil)) pe_int) pe_int) (pe_op op_mul (pe_op op_mul pe_int (pv 3)) (pv 3))))
      (pss_cons (ps_set (i := 6) sc_draw.nd rfl (Or.inl rfl) (pe_op op_mod (pe_callTy call_int1 (by rfl) T.z_int (by decide +kernel) (pa_cons (pe_op op_add (pe_op op_add (pv 6) (pe_op op_mul pe_int (pv 3))) pe_int) pa_nil)) pe_int))
      (pss_cons (ps_set (i := 6) sc_draw.nd rfl (Or.inl rfl) (pe_op op_mod (pe_callTy call_int1 (by rfl) T.z_int (by decide +kernel) (pa_cons (pe_op op_add (pe_op op_add (pe_op op_add (pe_op op_mul (pv 6) (pv 6)) (pe_op op_mul pe_int (pv 6))) (pe_op op_mul pe_int (pv 3))) pe_int) pa_nil)) pe_int))
      (pss_one (ps_ret (pe_op op_mod (pe_callTy call_int1 (by rfl) T.z_int (by decide +kernel) (pa_cons (pe_op op_fdiv (pe_op op_mod (pe_callTy call_int1 (by rfl) T.z_int (by decide +kernel) (pa_cons (pe_op op_mul (pv 6) (pe_op op_add (pv 6) pe_int)) pa_nil)) pe_int) pe_int) pa_nil)) (pv 1))))))))))))), ?_⟩
    refine ⟨_, rfl, d, _, rfl, gL, _, _, rfl, rfl, _, rfl, ite2 (fun c => ?_) (fun c => ?_)⟩
    · refine ⟨_, rfl, d, _, rfl, gL, .inl ⟨_, rfl, _, rfl, _, _, rfl, rfl, b0, ?_⟩⟩
      refine ⟨_, rfl, d, _, rfl, gL, _, rfl, _, _, rfl, rfl, ⟨b0, by omega⟩, _, rfl, d, _, rfl, DPut.k (k := Sum.inr "left") hd (by show 3 < sizeLine; decide), _, rfl, ?_⟩
      refine kq _ _ k (Int.emod_nonneg _ (by omega)) (Int.emod_lt_of_pos _ b0) (by omega) ⟨ns, m / b, ?_, ?_, Int.ediv_nonneg hm (by omega), hn⟩ (But.upd (fun _ _ _ e => e))
      · rw [put_l]; exact upd_same
      · rw [upd_ne ndl]; exact hc
    · refine ⟨_, rfl, d, _, rfl, gO, ?_⟩
      refine ⟨_, rfl, d, _, rfl, gC, l, _, rfl, .inl (SqL.of hc), ?_⟩
      refine ⟨_, _, rfl, _, rfl, _, _, rfl, rfl, _, rfl, d, _, rfl, DPut.k (k := Sum.inr "next") hd (by show 3 < sizeLine; decide), ?_⟩
      rw [put_o]
      have hd1 : upd H d (.dK (penK l ((k : Int) + 1) m)) d = some (.dK (penK l ((k : Int) + 1) m)) := upd_same
      have hc1 : upd H d (.dK (penK l ((k : Int) + 1) m)) l = some (.lst (ns.map V.int)) := by rw [upd_ne ndl]; exact hc
      have bt1 : But d H (upd H d (.dK (penK l ((k : Int) + 1) m))) := But.upd (fun _ _ _ e => e)
      generalize hH1 : upd H d (.dK (penK l ((k : Int) + 1) m)) = H1 at hd1 hc1 bt1 ⊢
      have gC1 := pen_c l ((k : Int) + 1) m ▸ DGet.k (k := Sum.inr "cells") hd1
      have pen1 : Pen H1 d l (k + 1) := ⟨ns, m, hd1, hc1, hm, hn⟩
      refine ⟨_, rfl, rfl, _, rfl, ite2 (fun c2 => ?_) (fun c2 => ?_)⟩
      · refine ⟨_, rfl, _, _, rfl, rfl, mul_l (by decide) (by decide), _, _, rfl, rfl, .inl ⟨_, rfl, _, rfl, _, _, rfl, rfl, b0, ?_⟩⟩
        exact kq _ _ (k + 1) (Int.emod_nonneg _ (by omega)) (Int.emod_lt_of_pos _ b0) (Nat.le_refl _) pen1 bt1
      · have hne : 0 < ns.length := by
          cases ns with
          | nil => exact absurd (decide_eq_true rfl) c2
          | cons _ _ => exact Nat.succ_pos _
        have lz : (0 : Int) < ((ns.map V.int).length : Int) := by rw [List.length_map]; omega
        obtain ⟨j, hj⟩ : ∃ j : Nat, (k : Int) % ((ns.map V.int).length : Int) = (j : Int) := ⟨((k : Int) % ((ns.map V.int).length : Int)).toNat, (Int.toNat_of_nonneg (Int.emod_nonneg _ (by omega))).symm⟩
        have hjl : j < ns.length := by
          have := Int.emod_lt_of_pos (k : Int) lz
          rw [hj, List.length_map] at this
          omega
        have hcell : (ns.map V.int)[j]? = some (V.int ns[j]) := by rw [List.getElem?_map, List.getElem?_eq_getElem hjl]; rfl
        refine ⟨_, rfl, d, _, rfl, gC1, _, rfl, .inl ⟨_, rfl, _, rfl, _, _, rfl, rfl, lz, ?_⟩⟩
        refine ⟨l, _, _, _, rfl, rfl, SqL.of hc1, at_of hj hcell, ?_⟩
        generalize ns[j] = z
        refine ⟨_, rfl, _, rfl, _, _, rfl, rfl, _, rfl, ?_⟩
        refine ite2 (fun _ => ?_) (fun _ => ?_)
        · refine ⟨_, rfl, _, rfl, _, _, rfl, rfl, ⟨by decide, by decide, by decide⟩, _, _, rfl, rfl, _, rfl, ite2 (fun c3 => ?_) (fun _ => ?_)⟩
          · have c4 := of_decide_eq_true c3
            refine ⟨_, rfl, _, rfl, _, _, rfl, rfl, ⟨by decide, by decide, by decide⟩, _, _, rfl, rfl, _, rfl, _, _, rfl, rfl, ⟨b0, by omega⟩, _, rfl, d, _, rfl, DPut.k (k := Sum.inr "left") hd1 (by show 3 < sizeLine; decide), ?_⟩
            refine ⟨_, rfl, _, rfl, _, _, rfl, rfl, ⟨by decide, by decide, by decide⟩, _, _, rfl, rfl, .inl ⟨_, rfl, _, rfl, _, _, rfl, rfl, b0, ?_⟩⟩
            refine kq _ _ (k + 1) (Int.emod_nonneg _ (by omega)) (Int.emod_lt_of_pos _ b0) (Nat.le_refl _) ⟨ns, _, by rw [put_l]; exact upd_same, ?_, Int.ediv_nonneg (Int.sub_nonneg_of_le c4) (by omega), hn⟩ (But.upd bt1)
            rw [upd_ne ndl]; exact hc1
          · exact (by
            refine ⟨_, rfl, .inl ⟨_, rfl, _, _, rfl, rfl, (by decide : (0 : Int) < 4294967197), _, _, rfl, rfl, mul_m (by decide) (by decide), _, rfl, _, _, rfl, rfl, mul_l (by decide) (by decide), _, rfl, _, _, rfl, rfl, mul_l (by omega) (by omega), _, _, rfl, rfl, ?_⟩⟩
            refine ⟨_, rfl, _, rfl, _, _, rfl, rfl, mul_l (by decide) (by decide), _, _, rfl, rfl, _, _, rfl, rfl, .inl ⟨_, rfl, _, _, rfl, rfl, (by decide : (0 : Int) < 4294967189), ?_⟩⟩
            refine ⟨_, rfl, _, rfl, _, _, rfl, rfl, mul_m (by decide) (by decide), _, rfl, _, _, rfl, rfl, mul_l (by decide) (by decide), _, _, rfl, rfl, _, rfl, _, _, rfl, rfl, mul_l (by decide) (by decide), _, _, rfl, rfl, _, _, rfl, rfl, .inl ⟨_, rfl, _, _, rfl, rfl, (by decide : (0 : Int) < 4294967161), ?_⟩⟩
            refine ⟨_, rfl, _, rfl, _, _, rfl, rfl, _, _, rfl, rfl, mul_m (by decide) (by decide), .inl ⟨_, rfl, _, _, rfl, rfl, (by decide : (0 : Int) < 4294967143), _, _, rfl, rfl, ⟨by decide, by decide⟩, .inl ⟨_, rfl, _, rfl, _, _, rfl, rfl, b0, ?_⟩⟩⟩
            exact kq _ _ (k + 1) (Int.emod_nonneg _ (by omega)) (Int.emod_lt_of_pos _ b0) (Nat.le_refl _) pen1 bt1)
        · refine iteF ?_
          exact (by
            refine ⟨_, rfl, .inl ⟨_, rfl, _, _, rfl, rfl, (by decide : (0 : Int) < 4294967197), _, _, rfl, rfl, mul_m (by decide) (by decide), _, rfl, _, _, rfl, rfl, mul_l (by decide) (by decide), _, rfl, _, _, rfl, rfl, mul_l (by omega) (by omega), _, _, rfl, rfl, ?_⟩⟩
            refine ⟨_, rfl, _, rfl, _, _, rfl, rfl, mul_l (by decide) (by decide), _, _, rfl, rfl, _, _, rfl, rfl, .inl ⟨_, rfl, _, _, rfl, rfl, (by decide : (0 : Int) < 4294967189), ?_⟩⟩
            refine ⟨_, rfl, _, rfl, _, _, rfl, rfl, mul_m (by decide) (by decide), _, rfl, _, _, rfl, rfl, mul_l (by decide) (by decide), _, _, rfl, rfl, _, rfl, _, _, rfl, rfl, mul_l (by decide) (by decide), _, _, rfl, rfl, _, _, rfl, rfl, .inl ⟨_, rfl, _, _, rfl, rfl, (by decide : (0 : Int) < 4294967161), ?_⟩⟩
            refine ⟨_, rfl, _, rfl, _, _, rfl, rfl, _, _, rfl, rfl, mul_m (by decide) (by decide), .inl ⟨_, rfl, _, _, rfl, rfl, (by decide : (0 : Int) < 4294967143), _, _, rfl, rfl, ⟨by decide, by decide⟩, .inl ⟨_, rfl, _, rfl, _, _, rfl, rfl, b0, ?_⟩⟩⟩
            exact kq _ _ (k + 1) (Int.emod_nonneg _ (by omega)) (Int.emod_lt_of_pos _ b0) (Nat.le_refl _) pen1 bt1)
theorem sc_pick : FnScope ["_law_pen", "_law_items"] ["_law_pen", "_law_items"] (defScope s_pick) := ⟨rfl, rfl, rfl, by decide +kernel, rfl, by decide +kernel, by decide +kernel⟩
theorem ok_pick (T : Txt K mg A) : FnOk P w K mg base CX0 2 A.a_pick A.d_pick ["_law_pen", "_law_items"] spPick := by
  have G_draw := ok_draw (P := P) (w := w) (base := base) T
  refine T.F_pick.ok sc_pick (fun vs H Q E h => ?_) (fun cdv Ar outer s H vs Q E hr h => ?_)
  · obtain ⟨d, l, p, xs, k, rfl, _⟩ := h; rfl
  · obtain ⟨d, l, p, xs, k, rfl, pen, hp, h0, h1, hk, kq⟩ := h
    refine ⟨_, (pss_one (ps_ret (pe_ix ix_list (pv 1) (pe_call G_draw (hr.mono (by decide)) (by rfl) T.g_draw T.F_draw.kp T.b_draw .nil pass0 (pa_cons (pv 0) (pa_cons (pe_callB call_len_seq (by rfl) T.z_len PySem.boot_len (pa_cons (pv 1) pa_nil)) pa_nil))) (fun _ _ => rfl)))), ?_⟩
    refine ⟨_, rfl, _, rfl, _, rfl, p, xs, rfl, .inl (SqL.of hp), d, l, _, k, rfl, pen, by omega, by omega, hk, fun v G k' v0 v1 kk pen' bt => ?_⟩
    obtain ⟨x, e⟩ := pen.some
    have hp' : G p = some (.lst xs) := bt _ _ (ne_of hp e (fun z => nomatch z)) hp
    have hv : v.toNat < xs.length := by omega
    refine ⟨p, xs, v, xs[v.toNat], rfl, rfl, SqL.of hp', at_of (Int.toNat_of_nonneg v0).symm (List.getElem?_eq_getElem hv), ?_⟩
    exact kq _ _ _ (List.getElem_mem hv) kk pen' bt
end
end Z

set_option Elab.async false
set_option linter.all false
set_option maxRecDepth 100000
set_option maxHeartbeats 8000000
/-! the law's counts -/
namespace Z
open PySem L2 XV KJ
def spSome : Sp := fun vs H Q _ => ∃ (d l : Addr) (k n : Nat), vs = [.ref d, .int (n : Int)] ∧ Pen H d l k ∧ n ≤ 30 ∧ k ≤ 900000 ∧
  ∀ (p : Addr) (ns : List Int) (G : Hp) (k' : Nat), ns.length = n → (∀ x : Int, x ∈ ns → 0 ≤ x) → k' ≤ k + 1 + 2 * n → Pen G d l k' → G p = some (.lst (ns.map V.int)) → But d H G → Q (.ref p) G
theorem Pen.newl {H : Hp} {d l D : Addr} {k : Nat} {o : HO} (h : Pen H d l k) (n : H D = none) : Pen (L2.upd H D o) d l k := by
  obtain ⟨x, e⟩ := h.some
  obtain ⟨y, f⟩ := h.cells
  exact h.upd (ne_of_none e n) (ne_of_none f n)
theorem But.newl {d D : Addr} {H G : Hp} {o : HO} (h : But d H G) (n : H D = none) : But d H (L2.upd G D o) := fun x u ne e => by
  rw [upd_ne (ne_of_none e n)]
  exact h x u ne e
/-- the list that is being filled, behind i elements -/
def Fill (H1 : Hp) (d l D : Addr) (k0 i : Nat) (G : Hp) : Prop := ∃ (acc : List Int) (k : Nat), acc.length = i ∧ (∀ x ∈ acc, 0 ≤ x) ∧ k ≤ k0 + 2 * i ∧ Pen G d l k ∧ But d H1 G ∧ G D = some (.lst (acc.map V.int))
theorem Fill.zero {H1 : Hp} {d l D : Addr} {k : Nat} (pen : Pen H1 d l k) (n : H1 D = none) : Fill H1 d l D k 0 (L2.upd H1 D (.lst [])) := by
  refine ⟨[], k, rfl, by simp, Nat.le_refl _, ?_, fun x u ne e => ?_, upd_same⟩
  · obtain ⟨x, e⟩ := pen.some
    obtain ⟨y, f⟩ := pen.cells
    exact pen.upd (ne_of_none e n) (ne_of_none f n)
  · rw [upd_ne (ne_of_none e n)]; exact e
/-- one more element, behind what the turn drew -/
theorem Fill.next {H1 G G2 : Hp} {d l D : Addr} {k0 i k2 : Nat} {acc : List Int} {v : Int} (n : H1 D = none) (pen0 : Pen H1 d l k0) (ha : acc.length = i) (hn : ∀ x ∈ acc, 0 ≤ x) (bt : But d H1 G) (hD : G D = some (.lst (acc.map V.int)))
    (hv : 0 ≤ v) (hk : k2 ≤ k0 + 2 * (i + 1)) (pen : Pen G2 d l k2) (b2 : But d G G2) (hi : i < 1000) :
    ∃ acc', G2 D = some (.lst acc') ∧ acc'.length < sizeLine ∧ Fill H1 d l D k0 (i + 1) (L2.upd G2 D (.lst (acc' ++ [V.int v]))) := by
  obtain ⟨x, e⟩ := pen0.some
  obtain ⟨y, f⟩ := pen0.cells
  have nd : d ≠ D := ne_of_none e n
  have nl : l ≠ D := ne_of_none f n
  refine ⟨_, b2 _ _ nd.symm hD, by rw [List.length_map, ha, sizeLine_eq]; omega, acc ++ [v], k2, by rw [List.length_append, ha]; rfl, fun z hz => ?_, hk, pen.upd nd nl, fun b u ne e => ?_, ?_⟩
  · rcases List.mem_append.mp hz with h | h
    · exact hn z h
    · simp at h; subst h; exact hv
  · rw [upd_ne (ne_of_none e n)]
    exact b2 _ _ ne (bt _ _ ne e)
  · rw [upd_same, List.map_append]; rfl
section
variable {P : Program} {w : World} {K : PySem.W.Frag} {mg : Str → Option Value} {base : Heap} {A : Ad}
theorem sc_somecounts : FnScope ["_law_pen", "_law_many", "_law_kind", "_law_sign"] ["_law_pen", "_law_many"] (defScope s_somecounts) := ⟨rfl, rfl, rfl, by decide +kernel, rfl, by decide +kernel, by decide +kernel⟩
theorem ok_somecounts (T : Txt K mg A) : FnOk P w K mg base CX0 3 A.a_somecounts A.d_somecounts ["_law_pen", "_law_many"] spSome := by
  have G_draw := ok_draw (P := P) (w := w) (base := base) T
  have G_pick := ok_pick (P := P) (w := w) (base := base) T
  refine T.F_somecounts.ok sc_somecounts (fun vs H Q E h => ?_) (fun cdv Ar outer s H vs Q E hr h => ?_)
  · obtain ⟨d, l, k, n, rfl, _⟩ := h; rfl
  · obtain ⟨d, l, k, n, rfl, pen, hn0, hk, kq⟩ := h
    refine ⟨_, (pss_cons (ps_set (i := 2) sc_somecounts.nd rfl (Or.inl rfl) (pe_call G_draw (hr.mono (by decide)) (by rfl) T.g_draw T.F_draw.kp T.b_draw .nil pass0 (pa_cons (pv 0) (pa_cons pe_int pa_nil))))
      (pss_cons (ps_if (pt_cmpR op_eq (pv 2) pe_int (nomark _)) (pss_one (ps_ret (pe_lc (own := [("_law_sign", 3)]) (by rfl) sc_somecounts.nd (pi_range1 (by rfl) T.z_range (pa_cons (pv 1) pa_nil)) (blkOk_by (own := [("_law_sign", 3)]) (N := ["_law_pen", "_law_many", "_law_kind", "_law_sign"]) (sc := defScope s_somecounts) (by decide +kernel)) (fun _ _ _ _ _ => (pg_name (i := 3) sc_somecounts.nd rfl (Or.inl rfl))) (fun _ _ _ _ _ => pts_nil) (fun _ _ _ _ _ => (pe_call G_draw (hr.mono (by decide)) (by rfl) T.g_draw T.F_draw.kp T.b_draw .nil pass0 (pa_cons (pv 0) (pa_cons pe_int pa_nil)))))))
        pss_nil)
      (pss_cons (ps_if (pt_cmpR op_eq (pv 2) pe_int (nomark _)) (pss_one (ps_ret (pe_lc (own := [("_law_sign", 3)]) (by rfl) sc_somecounts.nd (pi_range1 (by rfl) T.z_range (pa_cons (pv 1) pa_nil)) (blkOk_by (own := [("_law_sign", 3)]) (N := ["_law_pen", "_law_many", "_law_kind", "_law_sign"]) (sc := defScope s_somecounts) (by decide +kernel)) (fun _ _ _ _ _ => (pg_name (i := 3) sc_somecounts.nd rfl (Or.inl rfl))) (fun _ _ _ _ _ => pts_nil) (fun _ _ _ _ _ => (pe_call G_draw (hr.mono (by decide)) (by rfl) T.g_draw T.F_draw.kp T.b_draw .nil pass0 (pa_cons (pv 0) (pa_cons pe_int pa_nil)))))))
        pss_nil)
      (pss_cons (ps_if (pt_cmpR op_eq (pv 2) pe_int (nomark _)) (pss_one (ps_ret (pe_lc (own := [("_law_sign", 3)]) (by rfl) sc_somecounts.nd (pi_range1 (by rfl) T.z_range (pa_cons (pv 1) pa_nil)) (blkOk_by (own := [("_law_sign", 3)]) (N := ["_law_pen", "_law_many", "_law_kind", "_law_sign"]) (sc := defScope s_somecounts) (by decide +kernel)) (fun _ _ _ _ _ => (pg_name (i := 3) sc_somecounts.nd rfl (Or.inl rfl))) (fun _ _ _ _ _ => pts_nil) (fun _ _ _ _ _ => (pe_call G_pick (hr.mono (by decide)) (by rfl) T.g_pick T.F_pick.kp T.b_pick .nil pass0 (pa_cons (pv 0) (pa_cons (pe_lst (pa_cons pe_int (pa_cons pe_int (pa_cons pe_int (pa_cons pe_int (pa_cons pe_int (pa_cons pe_int pa_nil))))))) pa_nil)))))))
        pss_nil)
      (pss_one (ps_ret (pe_lc (own := [("_law_sign", 3)]) (by rfl) sc_somecounts.nd (pi_range1 (by rfl) T.z_range (pa_cons (pv 1) pa_nil)) (blkOk_by (own := [("_law_sign", 3)]) (N := ["_law_pen", "_law_many", "_law_kind", "_law_sign"]) (sc := defScope s_somecounts) (by decide +kernel)) (fun _ _ _ _ _ => (pg_name (i := 3) sc_somecounts.nd rfl (Or.inl rfl))) (fun _ _ _ _ _ => pts_nil) (fun _ _ _ _ _ => (pe_op op_add (pe_op op_mul (pe_call G_draw (hr.mono (by decide)) (by rfl) T.g_draw T.F_draw.kp T.b_draw .nil pass0 (pa_cons (pv 0) (pa_cons pe_int pa_nil))) (pe_op op_pow pe_int pe_int)) (pe_call G_draw (hr.mono (by decide)) (by rfl) T.g_draw T.F_draw.kp T.b_draw .nil pass0 (pa_cons (pv 0) (pa_cons pe_int pa_nil)))))))))))), ?_⟩
    refine ⟨_, rfl, d, l, 4, k, rfl, pen, by decide, by decide, by omega, fun v1 G1 k1 v1a v1b hk1 pen1 bt1 => ?_⟩
    refine ⟨_, rfl, rfl, _, rfl, ite2 (fun _ => ?_) (fun _ => ?_)⟩
    · refine ⟨_, rfl, (n : Int), rfl, by omega, by omega, fun D hD => lc_range (lo := 0) (n := n) (Fill G1 d l D k1) (Fill.zero pen1 hD) (fun i G hi hP => ?_) (fun G hP => ?_)⟩
      · obtain ⟨acc, k2, ha, hn, hk2, pen2, bt2, gD⟩ := hP
        refine ⟨rfl, ?_⟩
        refine ⟨_, rfl, d, l, 3, k2, rfl, pen2, by decide, by decide, by omega, fun v3 G3 k3 v3a v3b hk3 pen3 bt3 => ?_⟩
        exact Fill.next hD pen1 ha hn bt2 gD v3a (by omega) pen3 bt3 (by omega)
      · obtain ⟨acc, k2, ha, hn, hk2, pen2, bt2, gD⟩ := hP
        exact kq _ _ _ k2 ha hn (by omega) pen2 gD (bt1.trans bt2)
    refine ⟨_, rfl, rfl, _, rfl, ite2 (fun _ => ?_) (fun _ => ?_)⟩
    · refine ⟨_, rfl, (n : Int), rfl, by omega, by omega, fun D hD => lc_range (lo := 0) (n := n) (Fill G1 d l D k1) (Fill.zero pen1 hD) (fun i G hi hP => ?_) (fun G hP => ?_)⟩
      · obtain ⟨acc, k2, ha, hn, hk2, pen2, bt2, gD⟩ := hP
        refine ⟨rfl, ?_⟩
        refine ⟨_, rfl, d, l, 12, k2, rfl, pen2, by decide, by decide, by omega, fun v3 G3 k3 v3a v3b hk3 pen3 bt3 => ?_⟩
        exact Fill.next hD pen1 ha hn bt2 gD v3a (by omega) pen3 bt3 (by omega)
      · obtain ⟨acc, k2, ha, hn, hk2, pen2, bt2, gD⟩ := hP
        exact kq _ _ _ k2 ha hn (by omega) pen2 gD (bt1.trans bt2)
    refine ⟨_, rfl, rfl, _, rfl, ite2 (fun _ => ?_) (fun _ => ?_)⟩
    · refine ⟨_, rfl, (n : Int), rfl, by omega, by omega, fun D hD => lc_range (lo := 0) (n := n) (Fill G1 d l D k1) (Fill.zero pen1 hD) (fun i G hi hP => ?_) (fun G hP => ?_)⟩
      · obtain ⟨acc, k2, ha, hn, hk2, pen2, bt2, gD⟩ := hP
        refine ⟨rfl, ?_⟩
        refine ⟨_, rfl, (by show 6 ≤ sizeLine; decide), fun p np => ?_⟩
        have pen2' := pen2.newl (o := .lst [V.int 1, V.int 1, V.int 2, V.int 4, V.int 8, V.int 16]) np
        refine ⟨d, l, p, _, k2, rfl, pen2', upd_same, by decide, by decide, by omega, fun v3 G3 k3 hv hk3 pen3 bt3 => ?_⟩
        obtain ⟨z, rfl, hz⟩ : ∃ z : Int, v3 = .int z ∧ 0 ≤ z := by
          simp only [List.mem_cons, List.not_mem_nil, or_false] at hv
          rcases hv with rfl | rfl | rfl | rfl | rfl | rfl <;> exact ⟨_, rfl, by decide⟩
        refine Fill.next hD pen1 ha hn bt2 gD hz (by omega) pen3 (fun b u ne e => bt3 _ _ ne (by rw [upd_ne (ne_of_none e np)]; exact e)) (by omega)
      · obtain ⟨acc, k2, ha, hn, hk2, pen2, bt2, gD⟩ := hP
        exact kq _ _ _ k2 ha hn (by omega) pen2 gD (bt1.trans bt2)
    refine ⟨_, rfl, (n : Int), rfl, by omega, by omega, fun D hD => lc_range (lo := 0) (n := n) (Fill G1 d l D k1) (Fill.zero pen1 hD) (fun i G hi hP => ?_) (fun G hP => ?_)⟩
    · obtain ⟨acc, k2, ha, hn, hk2, pen2, bt2, gD⟩ := hP
      refine ⟨rfl, ?_⟩
      refine ⟨_, rfl, d, l, 4, k2, rfl, pen2, by decide, by decide, by omega, fun v3 G3 k3 v3a v3b hk3 pen3 bt3 => ?_⟩
      refine ⟨_, _, rfl, rfl, ⟨by decide, by decide, by decide⟩, _, _, rfl, rfl, mul_l (by omega) (by omega), ?_⟩
      refine ⟨_, rfl, d, l, 5, k3, rfl, pen3, by decide, by decide, by omega, fun v4 G4 k4 v4a v4b hk4 pen4 bt4 => ⟨_, _, rfl, rfl, ?_⟩⟩
      exact Fill.next hD pen1 ha hn bt2 gD (Int.add_nonneg (Int.mul_nonneg v3a (by decide +kernel)) v4a) (by omega) pen4 (bt3.trans bt4) (by omega)
    · obtain ⟨acc, k2, ha, hn, hk2, pen2, bt2, gD⟩ := hP
      exact kq _ _ _ k2 ha hn (by omega) pen2 gD (bt1.trans bt2)
end
end Z

set_option Elab.async false
set_option linter.all false
set_option maxRecDepth 100000
set_option maxHeartbeats 8000000
/-! counts with one that is none -/
namespace Z
open PySem L2 XV KJ
theorem same_newl {H G : Hp} {p : Addr} {o : HO} (s : Same H G) (n : G p = none) : Same H (L2.upd G p o) := s.trans (same_new n)
theorem Odd.but {H G : Hp} {d : Addr} {v : V} (h : Odd H v) (n : v ≠ .ref d) (b : But d H G) : Odd G v := by
  cases h with
  | non => exact .non
  | bl b => exact .bl b
  | int i => exact .int i
  | str x => exact .str x
  | lst h => exact .lst (b _ _ (fun z => n (by rw [z])) h)
  | tup h => exact .tup (b _ _ (fun z => n (by rw [z])) h)
  | dct h => exact .dct (b _ _ (fun z => n (by rw [z])) h)
def spOddC : Sp := fun vs H Q _ => ∃ (d l p : Addr) (k : Nat) (ns : List Int), vs = [.ref d, .ref p] ∧ Pen H d l k ∧ H p = some (.lst (ns.map V.int)) ∧ (∀ x ∈ ns, 0 ≤ x) ∧ 1 ≤ ns.length ∧ ns.length ≤ 26 ∧ k ≤ 900000 ∧
  ∀ (t c : Addr) (xs : List V) (i : Nat) (G : Hp) (k' : Nat), G t = some (.tup [.ref c, .int (i : Int)]) → G c = some (.lst xs) → xs.length = ns.length → BadAt xs i → (∀ x ∈ xs, Odd G x) → k' ≤ k + 2 → Pen G d l k' → But d H G → Q (.ref t) G
theorem bad_at {ns : List Int} {i : Nat} {v : V} (hn : ∀ x ∈ ns, 0 ≤ x) (hi : i < ns.length) (hv : isC v = false) : BadAt ((ns.map V.int).take i ++ [v] ++ (ns.map V.int).drop (i + 1)) i := by
  have e0 : ((ns.map V.int).take i).length = i := by rw [List.length_take, List.length_map]; omega
  refine ⟨⟨v, ?_, hv⟩, fun j w hj hw => ?_⟩
  · rw [List.append_assoc, List.getElem?_append_right (by omega), e0, Nat.sub_self]; rfl
  · rw [List.append_assoc, List.getElem?_append_left (by omega)] at hw
    rw [List.getElem?_take_of_lt hj, List.getElem?_map] at hw
    obtain ⟨n, h1, h2⟩ := Option.map_eq_some_iff.mp hw
    subst h2
    exact decide_eq_true (hn n (List.mem_of_getElem? h1))
theorem len_at {xs : List V} {i : Nat} {v : V} (hi : i < xs.length) : (xs.take i ++ [v] ++ xs.drop (i + 1)).length = xs.length := by
  rw [List.length_append, List.length_append, List.length_take, List.length_drop]
  show min i xs.length + 1 + _ = _
  omega
theorem cut_to {xs : List V} {i : Nat} (h : i ≤ xs.length) : cutV xs none (some (i : Int)) = xs.take i := by
  unfold cutV
  rw [HT.sIx_none, HT.sIx_nat, Nat.min_eq_left h, List.drop_zero, Nat.sub_zero]
theorem cut_fromN {xs : List V} {i : Nat} (h : i ≤ xs.length) : cutV xs (some (i : Int)) none = xs.drop i := by
  unfold cutV
  rw [HT.sIx_none, HT.sIx_nat, Nat.min_eq_left h, List.take_of_length_le (by rw [List.length_drop]; omega)]
theorem cut_from {xs : List V} {i : Nat} (h : i < xs.length) : cutV xs (some ((i : Int) + 1)) none = xs.drop (i + 1) := by
  rw [show ((i : Int) + 1) = ((i + 1 : Nat) : Int) from rfl]
  exact cut_fromN h
theorem mem_cut {xs : List V} {lo hi : Option Int} {v : V} (h : v ∈ cutV xs lo hi) : v ∈ xs := List.mem_of_mem_drop (List.mem_of_mem_take h)
section
variable {P : Program} {w : World} {K : PySem.W.Frag} {mg : Str → Option Value} {base : Heap} {A : Ad}
theorem sc_oddcounts : FnScope ["_law_pen", "_law_counts", "_law_at", "_law_odd"] ["_law_pen", "_law_counts"] (defScope s_oddcounts) := ⟨rfl, rfl, rfl, by decide +kernel, rfl, by decide +kernel, by decide +kernel⟩
theorem ok_oddcounts (T : Txt K mg A) : FnOk P w K mg base CX0 3 A.a_oddcounts A.d_oddcounts ["_law_pen", "_law_counts"] spOddC := by
  have G_draw := ok_draw (P := P) (w := w) (base := base) T
  have G_pick := ok_pick (P := P) (w := w) (base := base) T
  refine T.F_oddcounts.ok sc_oddcounts (fun vs H Q E h => ?_) (fun cdv Ar outer s H vs Q E hr h => ?_)
  · obtain ⟨d, l, p, k, ns, rfl, _⟩ := h; rfl
  · obtain ⟨d, l, p, k, ns, rfl, pen, hp, hn, n1, n26, hk, kq⟩ := h
    refine ⟨_, (pss_cons (ps_set (i := 2) sc_oddcounts.nd rfl (Or.inl rfl) (pe_call G_draw (hr.mono (by decide)) (by rfl) T.g_draw T.F_draw.kp T.b_draw .nil pass0 (pa_cons (pv 0) (pa_cons (pe_callB call_len_seq (by rfl) T.z_len PySem.boot_len (pa_cons (pv 1) pa_nil)) pa_nil))))
      (pss_cons (ps_set (i := 3) sc_oddcounts.nd rfl (Or.inl rfl) (pe_call G_pick (hr.mono (by decide)) (by rfl) T.g_pick T.F_pick.kp T.b_pick .nil pass0 (pa_cons (pv 0) (pa_cons (pe_lst (pa_cons pe_non (pa_cons (pe_un un_neg pe_int) (pa_cons pe_bl (pa_cons pe_bl (pa_cons pe_str (pa_cons (pe_lst pa_nil) (pa_cons pe_dnewK (pa_cons (pe_tup (pa_cons pe_int pa_nil)) (pa_cons (pe_un un_neg (pe_op op_pow pe_int pe_int)) pa_nil)))))))))) pa_nil))))
      (pss_one (ps_ret (pe_tup (pa_cons (pe_op op_cat (pe_op op_cat (pe_slice sl_list (pv 1) po_none (po_some (pv 2))) (pe_lst (pa_cons (pv 3) pa_nil))) (pe_slice sl_list (pv 1) (po_some (pe_op op_add (pv 2) pe_int)) po_none)) (pa_cons (pv 2) pa_nil))))))), ?_⟩
    refine ⟨_, rfl, _, rfl, p, _, rfl, .inl (SqL.of hp), d, l, _, k, rfl, pen, by rw [List.length_map]; omega, by rw [List.length_map]; omega, by omega, fun v1 G1 k1 v1a v1b hk1 pen1 bt1 => ?_⟩
    rw [List.length_map] at v1b
    obtain ⟨i, rfl⟩ : ∃ i : Nat, v1 = (i : Int) := ⟨v1.toNat, (Int.toNat_of_nonneg v1a).symm⟩
    have hi : i < ns.length := by omega
    have hp1 : G1 p = some (.lst (ns.map V.int)) := bt1 _ _ (let ⟨x, e⟩ := pen.some; ne_of hp e (fun z => nomatch z)) hp
    refine ⟨_, rfl, _, rfl, (by show 0 ≤ sizeLine; decide), fun a na => ?_⟩
    have sa : Same G1 (upd G1 a (.lst [])) := same_new na
    have ha : upd G1 a (.lst []) a = some (.lst []) := upd_same
    generalize upd G1 a (.lst []) = Ga at *
    intro b nb
    have sb : Same Ga (upd Ga b (.dK [])) := same_new nb
    have hb : upd Ga b (.dK []) b = some (.dK []) := upd_same
    generalize upd Ga b (.dK []) = Gb at *
    refine ⟨(by show 1 ≤ sizeLine; decide), fun c nc => ?_⟩
    have sc : Same Gb (upd Gb c (.tup [.int 1])) := same_new nc
    have hc : upd Gb c (.tup [.int 1]) c = some (.tup [.int 1]) := upd_same
    generalize upd Gb c (.tup [.int 1]) = Gc at *
    refine ⟨_, _, rfl, rfl, ⟨by decide, by decide, by decide⟩, _, rfl, (by show 9 ≤ sizeLine; decide), fun L nL => ?_⟩
    have q30 : (10 : Int) ^ Int.toNat 30 = 1000000000000000000000000000000 := by decide +kernel
    rw [q30]
    have sL : Same Gc (upd Gc L (.lst [.non, .int (-1), .bl true, .bl false, .str "3", .ref a, .ref b, .ref c, .int (-1000000000000000000000000000000)])) := same_new nL
    have hL : upd Gc L (.lst [.non, .int (-1), .bl true, .bl false, .str "3", .ref a, .ref b, .ref c, .int (-1000000000000000000000000000000)]) L = some (.lst [.non, .int (-1), .bl true, .bl false, .str "3", .ref a, .ref b, .ref c, .int (-1000000000000000000000000000000)]) := upd_same
    generalize upd Gc L (.lst [.non, .int (-1), .bl true, .bl false, .str "3", .ref a, .ref b, .ref c, .int (-1000000000000000000000000000000)]) = GL at *
    have s1L : Same G1 GL := ((sa.trans sb).trans sc).trans sL
    have hbL : GL b = some (.dK []) := sL _ _ (sc _ _ hb)
    have bd : b ≠ d := fun z => by
      obtain ⟨x, e⟩ := (pen1.same s1L).some
      rw [← z, hbL] at e
      cases e
    have penL := pen1.same s1L
    have ad : a ≠ d := let ⟨x, e⟩ := penL.some; ne_of (sL _ _ (sc _ _ (sb _ _ ha))) e (fun z => nomatch z)
    have cd : c ≠ d := let ⟨x, e⟩ := penL.some; ne_of (sL _ _ hc) e (fun z => nomatch z)
    refine ⟨d, l, L, _, k1, rfl, penL, hL, (by show 0 < 9; decide), (by show 9 < 1000; decide), by omega, fun v G2 k2 hv hk2 pen2 bt2 => ?_⟩
    have hodd : Odd G2 v ∧ isC v = false := by
      simp only [List.mem_cons, List.not_mem_nil, or_false] at hv
      rcases hv with rfl | rfl | rfl | rfl | rfl | rfl | rfl | rfl | rfl
      · exact ⟨.non, rfl⟩
      · exact ⟨.int _, rfl⟩
      · exact ⟨.bl _, rfl⟩
      · exact ⟨.bl _, rfl⟩
      · exact ⟨.str _, rfl⟩
      · exact ⟨.lst (bt2 _ _ ad (sL _ _ (sc _ _ (sb _ _ ha)))), rfl⟩
      · exact ⟨.dct (bt2 _ _ bd hbL), rfl⟩
      · exact ⟨.tup (bt2 _ _ cd (sL _ _ hc)), rfl⟩
      · exact ⟨.int _, rfl⟩
    have pd : p ≠ d := let ⟨x, e⟩ := pen1.some; ne_of hp1 e (fun z => nomatch z)
    have hp2 : G2 p = some (.lst (ns.map V.int)) := bt2 _ _ pd (s1L _ _ hp1)
    have btH : But d H G2 := (bt1.trans (But.of s1L)).trans bt2
    have il : i < (ns.map V.int).length := by rw [List.length_map]; exact hi
    clear hv sa ha sb hb sc hc sL hL hbL na nb nc nL
    refine ⟨_, rfl, _, rfl, _, rfl, p, _, rfl, SqL.of hp2, fun q nq => ?_⟩
    rw [cut_to (Nat.le_of_lt il)]
    have sq : Same G2 (upd G2 q (.lst ((ns.map V.int).take i))) := same_new nq
    have hq : upd G2 q (.lst ((ns.map V.int).take i)) q = some (.lst ((ns.map V.int).take i)) := upd_same
    generalize upd G2 q (.lst ((ns.map V.int).take i)) = G3 at *
    refine ⟨_, rfl, (by show 1 ≤ sizeLine; decide), fun m nm => ?_⟩
    have sm : Same G3 (upd G3 m (.lst [v])) := same_new nm
    have hm : upd G3 m (.lst [v]) m = some (.lst [v]) := upd_same
    generalize upd G3 m (.lst [v]) = G4 at *
    refine ⟨_, _, _, _, rfl, rfl, sm _ _ hq, hm, by simp only [List.length_take, List.length_map, List.length_cons, List.length_nil]; rw [sizeLine_eq]; omega, fun r nr => ?_⟩
    have sr : Same G4 (upd G4 r (.lst ((ns.map V.int).take i ++ [v]))) := same_new nr
    have hr' : upd G4 r (.lst ((ns.map V.int).take i ++ [v])) r = some (.lst ((ns.map V.int).take i ++ [v])) := upd_same
    generalize upd G4 r (.lst ((ns.map V.int).take i ++ [v])) = G5 at *
    have s25 : Same G2 G5 := (sq.trans sm).trans sr
    refine ⟨_, rfl, _, rfl, _, _, rfl, rfl, _, rfl, p, _, rfl, SqL.of (s25 _ _ hp2), fun u nu => ?_⟩
    rw [cut_from il]
    have su : Same G5 (upd G5 u (.lst ((ns.map V.int).drop (i + 1)))) := same_new nu
    have hu : upd G5 u (.lst ((ns.map V.int).drop (i + 1))) u = some (.lst ((ns.map V.int).drop (i + 1))) := upd_same
    generalize upd G5 u (.lst ((ns.map V.int).drop (i + 1))) = G6 at *
    refine ⟨_, _, _, _, rfl, rfl, su _ _ hr', hu, by simp only [List.length_append, List.length_take, List.length_drop, List.length_map, List.length_cons, List.length_nil]; rw [sizeLine_eq]; omega, fun z nz => ?_⟩
    have sz : Same G6 (upd G6 z (.lst ((ns.map V.int).take i ++ [v] ++ (ns.map V.int).drop (i + 1)))) := same_new nz
    have hz : upd G6 z (.lst ((ns.map V.int).take i ++ [v] ++ (ns.map V.int).drop (i + 1))) z = some (.lst ((ns.map V.int).take i ++ [v] ++ (ns.map V.int).drop (i + 1))) := upd_same
    generalize upd G6 z (.lst ((ns.map V.int).take i ++ [v] ++ (ns.map V.int).drop (i + 1))) = G7 at *
    refine ⟨_, rfl, (by show 2 ≤ sizeLine; decide), fun t nt => ?_⟩
    have st := same_new (o := .tup [V.ref z, V.int (i : Int)]) nt
    have s2t := ((s25.trans su).trans sz).trans st
    refine kq t z _ i _ k2 upd_same (st _ _ hz) (by rw [len_at il, List.length_map]) (bad_at hn hi hodd.2) (fun x hx => ?_) (by omega) (pen2.same s2t) (btH.trans (But.of s2t))
    rw [List.append_assoc, List.mem_append, List.mem_append] at hx
    rcases hx with hx | hx | hx
    · obtain ⟨n, _, rfl⟩ := List.mem_map.mp (List.mem_of_mem_take hx)
      exact .int n
    · simp at hx
      subst hx
      exact hodd.1.same s2t
    · obtain ⟨n, _, rfl⟩ := List.mem_map.mp (List.mem_of_mem_drop hx)
      exact .int n
end
end Z

set_option Elab.async false
set_option linter.all false
set_option maxRecDepth 100000
set_option maxHeartbeats 8000000
/-! drawn steps -/
namespace Z
open PySem L2 XV KJ
/-- the steps L stand at z, as tuples -/
def Steps (H : Hp) (z : Addr) (L : List (Int × Int × Int)) : Prop := ∃ qs : List Addr, H z = some (.lst (qs.map V.ref)) ∧ qs.length = L.length ∧ ∀ (i : Nat) (q : Addr) (o : Int × Int × Int), qs[i]? = some q → L[i]? = some o → H q = some (.tup [.int o.1, .int o.2.1, .int o.2.2])
def spDrawn : Sp := fun vs H Q _ => ∃ (d l p : Addr) (k : Nat) (ns : List Int), vs = [.ref d, .ref p] ∧ Pen H d l k ∧ H p = some (.lst (ns.map V.int)) ∧ 2 ≤ ns.length ∧ ns.length ≤ 26 ∧ k ≤ 900000 ∧
  ∀ (z : Addr) (L : List (Int × Int × Int)) (G : Hp) (k' : Nat), Steps G z L → L.length = ns.length - 1 → jd ns (some (L.map some)) = true → k' ≤ k + 100 → Pen G d l k' → But d H G → Q (.ref z) G
section
variable {P : Program} {w : World} {K : PySem.W.Frag} {mg : Str → Option Value} {base : Heap} {A : Ad}
theorem sc_drawn : FnScope ["_law_pen", "_law_counts", "_law_weights", "_law_there", "_law_steps", "_law_least", "_law_one", "_law_rest", "_law_next_least", "_law_other", "_law_pair", "_law_node"] ["_law_pen", "_law_counts"] (defScope s_drawn) := ⟨rfl, rfl, rfl, by decide +kernel, rfl, by decide +kernel, by decide +kernel⟩
theorem ok_drawn (T : Txt K mg A) : FnOk P w K mg base CX0 3 A.a_drawn A.d_drawn ["_law_pen", "_law_counts"] spDrawn := by
  have G_draw := ok_draw (P := P) (w := w) (base := base) T
  have G_pick := ok_pick (P := P) (w := w) (base := base) T
  refine T.F_drawn.ok sc_drawn (fun vs H Q E h => ?_) (fun cdv Ar outer s H vs Q E hr h => ?_)
  · obtain ⟨d, l, p, k, ns, rfl, _⟩ := h; rfl
  · obtain ⟨d, l, p, k, ns, rfl, pen, hp, n2, n26, hk, kq⟩ := h
    refine ⟨_, (pss_cons (ps_asg (pe_tup (pa_cons (pe_callTy call_list_of (by rfl) T.z_list (by decide +kernel) (pa_cons (pv 1) pa_nil)) (pa_cons (pe_listRg (by rfl) (by rfl) T.z_list (prg_1 (by rfl) T.z_range (pe_callB call_len_seq (by rfl) T.z_len PySem.boot_len (pa_cons (pv 1) pa_nil)))) (pa_cons (pe_lst pa_nil) pa_nil)))) (pg_tup (by rfl) (pgs_cons (pg_name (i := 2) sc_drawn.nd rfl (Or.inr rfl)) (pgs_cons (pg_name (i := 3) sc_drawn.nd rfl (Or.inl rfl)) (pgs_cons (pg_name (i := 4) sc_drawn.nd rfl (Or.inl rfl)) pgs_nil)))))
      (pss_cons (ps_while PassesOwn.never (pt_cmpR op_gt (pe_callB call_len_seq (by rfl) T.z_len PySem.boot_len (pa_cons (pv 3) pa_nil)) pe_int (nomark _))
         (pss_cons (ps_set (i := 5) sc_drawn.nd rfl (Or.inr rfl) (pe_callB (cr_min rfl) (by rfl) T.z_min (by decide +kernel) (pa_cons (pe_lc (own := [("_law_node", 11)]) (by rfl) sc_drawn.nd (pi_list (pv 3)) (blkOk_by (own := [("_law_node", 11)]) (N := ["_law_pen", "_law_counts", "_law_weights", "_law_there", "_law_steps", "_law_least", "_law_one", "_law_rest", "_law_next_least", "_law_other", "_law_pair", "_law_node"]) (sc := defScope s_drawn) (by decide +kernel)) (fun _ _ _ _ _ => (pg_name (i := 11) sc_drawn.nd rfl (Or.inl rfl))) (fun _ _ _ _ _ => pts_nil) (fun _ _ _ _ _ => (pe_ix (r := rIxL K) ix_list (pv 2) (pv 11) (fun _ _ => rfl)))) pa_nil)))
         (pss_cons (ps_set (i := 6) sc_drawn.nd rfl (Or.inr rfl) (pe_call G_pick (hr.mono (by decide)) (by rfl) T.g_pick T.F_pick.kp T.b_pick .nil pass0 (pa_cons (pv 0) (pa_cons (pe_lc (own := [("_law_node", 11)]) (by rfl) sc_drawn.nd (pi_list (pv 3)) (blkOk_by (own := [("_law_node", 11)]) (N := ["_law_pen", "_law_counts", "_law_weights", "_law_there", "_law_steps", "_law_least", "_law_one", "_law_rest", "_law_next_least", "_law_other", "_law_pair", "_law_node"]) (sc := defScope s_drawn) (by decide +kernel)) (fun _ _ _ _ _ => (pg_name (i := 11) sc_drawn.nd rfl (Or.inl rfl))) (fun _ _ _ _ _ => (pts_one (pt_cmpR op_eq (pe_ix (r := rIxL K) ix_list (pv 2) (pv 11) (fun _ _ => rfl)) (pv 5) (nomark _)))) (fun _ _ _ _ _ => (pv 11))) pa_nil))))
         (pss_cons (ps_setLc (i := 7) (own := [("_law_node", 11)]) (by rfl) sc_drawn.nd rfl rfl (sw_true rfl rfl rfl (by decide +kernel)) (pi_list (pv 3)) (blkOk_by (own := [("_law_node", 11)]) (N := ["_law_pen", "_law_counts", "_law_weights", "_law_there", "_law_steps", "_law_least", "_law_one", "_law_rest", "_law_next_least", "_law_other", "_law_pair", "_law_node"]) (sc := defScope s_drawn) (by decide +kernel)) (fun _ _ _ _ _ => (pg_name (i := 11) sc_drawn.nd rfl (Or.inl rfl))) (fun _ _ _ _ _ => (pts_one (pt_cmpR op_ne (pv 11) (pv 6) (nomark _)))) (fun _ _ _ _ _ => (pv 11)))
         (pss_cons (ps_set (i := 8) sc_drawn.nd rfl (Or.inr rfl) (pe_callB (cr_min rfl) (by rfl) T.z_min (by decide +kernel) (pa_cons (pe_lc (own := [("_law_node", 11)]) (by rfl) sc_drawn.nd (pi_list (pv 7)) (blkOk_by (own := [("_law_node", 11)]) (N := ["_law_pen", "_law_counts", "_law_weights", "_law_there", "_law_steps", "_law_least", "_law_one", "_law_rest", "_law_next_least", "_law_other", "_law_pair", "_law_node"]) (sc := defScope s_drawn) (by decide +kernel)) (fun _ _ _ _ _ => (pg_name (i := 11) sc_drawn.nd rfl (Or.inl rfl))) (fun _ _ _ _ _ => pts_nil) (fun _ _ _ _ _ => (pe_ix (r := rIxL K) ix_list (pv 2) (pv 11) (fun _ _ => rfl)))) pa_nil)))
         (pss_cons (ps_set (i := 9) sc_drawn.nd rfl (Or.inr rfl) (pe_call G_pick (hr.mono (by decide)) (by rfl) T.g_pick T.F_pick.kp T.b_pick .nil pass0 (pa_cons (pv 0) (pa_cons (pe_lc (own := [("_law_node", 11)]) (by rfl) sc_drawn.nd (pi_list (pv 7)) (blkOk_by (own := [("_law_node", 11)]) (N := ["_law_pen", "_law_counts", "_law_weights", "_law_there", "_law_steps", "_law_least", "_law_one", "_law_rest", "_law_next_least", "_law_other", "_law_pair", "_law_node"]) (sc := defScope s_drawn) (by decide +kernel)) (fun _ _ _ _ _ => (pg_name (i := 11) sc_drawn.nd rfl (Or.inl rfl))) (fun _ _ _ _ _ => (pts_one (pt_cmpR op_eq (pe_ix (r := rIxL K) ix_list (pv 2) (pv 11) (fun _ _ => rfl)) (pv 8) (nomark _)))) (fun _ _ _ _ _ => (pv 11))) pa_nil))))
         (pss_cons (ps_set (i := 10) sc_drawn.nd rfl (Or.inl rfl) (pe_ifExp (pt_cmpR op_eq (pe_call G_draw (hr.mono (by decide)) (by rfl) T.g_draw T.F_draw.kp T.b_draw .nil pass0 (pa_cons (pv 0) (pa_cons pe_int pa_nil))) pe_int (nomark _)) (pe_tup (pa_cons (pv 6) (pa_cons (pv 9) pa_nil))) (pe_tup (pa_cons (pv 9) (pa_cons (pv 6) pa_nil)))))
         (pss_cons (ps_set (i := 3) sc_drawn.nd rfl (Or.inl rfl) (pe_op op_cat (pe_lc (own := [("_law_node", 11)]) (by rfl) sc_drawn.nd (pi_list (pv 7)) (blkOk_by (own := [("_law_node", 11)]) (N := ["_law_pen", "_law_counts", "_law_weights", "_law_there", "_law_steps", "_law_least", "_law_one", "_law_rest", "_law_next_least", "_law_other", "_law_pair", "_law_node"]) (sc := defScope s_drawn) (by decide +kernel)) (fun _ _ _ _ _ => (pg_name (i := 11) sc_drawn.nd rfl (Or.inl rfl))) (fun _ _ _ _ _ => (pts_one (pt_cmpR op_ne (pv 11) (pv 9) (nomark _)))) (fun _ _ _ _ _ => (pv 11))) (pe_lst (pa_cons (pe_callB call_len_seq (by rfl) T.z_len PySem.boot_len (pa_cons (pv 2) pa_nil)) pa_nil))))
         (pss_cons (ps_expr (pe_bm PySem.F.plainAttrs_list PySem.F.slot_list_append PySem.F.type_list_append mt_append (pv 2) (pa_cons (pe_op op_add (pe_ix ix_list (pv 2) (pv 6) (fun _ _ => rfl)) (pe_ix ix_list (pv 2) (pv 9) (fun _ _ => rfl))) pa_nil)))
         (pss_one (ps_expr (pe_bm PySem.F.plainAttrs_list PySem.F.slot_list_append PySem.F.type_list_append mt_append (pv 4) (pa_cons (pe_op op_catA (pv 10) (pe_tup (pa_cons (pe_ix ix_list (pv 2) (pe_un un_neg pe_int) (fun _ _ => rfl)) pa_nil))) pa_nil)))))))))))))
      (pss_one (ps_ret (pv 4))))), ?_⟩
    refine ⟨_, rfl, p, _, rfl, .inl (SqL.of hp), fun w nw => ?_⟩
    have s_w : Same H (upd H w (.lst (ns.map V.int))) := same_new nw
    have h_w : upd H w (.lst (ns.map V.int)) w = some (.lst (ns.map V.int)) := upd_same
    generalize upd H w (.lst (ns.map V.int)) = G1 at *
    refine ⟨_, rfl, p, _, rfl, .inl (SqL.of (s_w _ _ hp)), _, rfl, by rw [List.length_map]; exact RgOk.of_le (Int.le_refl 0) (by omega) (by decide) (by omega), fun t nt => ?_⟩
    rw [List.length_map, rg_nat]
    have s_t : Same G1 (upd G1 t (.lst ((List.range ns.length).map nV))) := same_new nt
    have h_t : upd G1 t (.lst ((List.range ns.length).map nV)) t = some (.lst ((List.range ns.length).map nV)) := upd_same
    generalize upd G1 t (.lst ((List.range ns.length).map nV)) = G2 at *
    refine ⟨(by show 0 ≤ sizeLine; decide), fun z nz => ?_⟩
    have s_z : Same G2 (upd G2 z (.lst [])) := same_new nz
    have h_z : upd G2 z (.lst []) z = some (.lst []) := upd_same
    generalize upd G2 z (.lst []) = G3 at *
    refine ⟨(by show 3 ≤ sizeLine; decide), fun u nu => ?_⟩
    have s_u : Same G3 (upd G3 u (.tup [V.ref w, V.ref t, V.ref z])) := same_new nu
    have h_u : upd G3 u (.tup [V.ref w, V.ref t, V.ref z]) u = some (.tup [V.ref w, V.ref t, V.ref z]) := upd_same
    generalize upd G3 u (.tup [V.ref w, V.ref t, V.ref z]) = G4 at *
    refine ⟨u, _, rfl, SqT.of h_u, rfl, _, _, rfl, _, _, rfl, _, _, rfl, rfl, ?_⟩
    have tw : t ≠ w := (ne_of_none h_w nt).symm
    have wz : w ≠ z := ne_of_none (s_t _ _ h_w) nz
    have tz : t ≠ z := ne_of_none h_t nz
    have nzH : H z = none := by
      cases e : H z with
      | none => rfl
      | some o => have := s_t _ _ (s_w _ _ e); rw [nz] at this; cases this
    have wd : w ≠ d := let ⟨x, e⟩ := pen.some; (ne_of_none e nw).symm
    have zd : z ≠ d := let ⟨x, e⟩ := pen.some; (ne_of_none e nzH).symm
    have wl : w ≠ l := let ⟨x, e⟩ := pen.cells; (ne_of_none e nw).symm
    have zl : z ≠ l := let ⟨x, e⟩ := pen.cells; (ne_of_none e nzH).symm
    have hw4 := s_u _ _ (s_z _ _ (s_t _ _ h_w))
    have ht4 := s_u _ _ (s_z _ _ h_t)
    have hz4 := s_u _ _ h_z
    have sH4 : Same H G4 := ((s_w.trans s_t).trans s_z).trans s_u
    refine ⟨fun m σ G => ∃ (t : Addr) (T : List Nat) (Wt : List Int) (L : List (Int × Int × Int)) (k' : Nat), (∃ y5 y6 y7 y8 y9 y10 y11, σ = [some (.ref d), some (.ref p), some (.ref w), some (.ref t), some (.ref z), y5, y6, y7, y8, y9, y10, y11]) ∧ m = T.length ∧ G w = some (.lst (Wt.map V.int)) ∧ G t = some (.lst (T.map nV)) ∧ Steps G z L ∧ t ≠ w ∧ t ≠ z ∧ There T Wt ∧ Wt.length = ns.length + L.length ∧ T.length + L.length = ns.length ∧ 1 ≤ T.length ∧ k' ≤ k + 3 * L.length ∧ Pen G d l k' ∧ But d H G ∧ ∀ R, run (d0 ns) ns.length (L.map some ++ R) = run (dT T Wt) (ns.length + L.length) R,
      ⟨_, t, List.range ns.length, ns, [], k, ⟨_, _, _, _, _, _, _, rfl⟩, rfl, hw4, ht4, ⟨[], hz4, rfl, fun i q o h => nomatch h⟩, tw, tz, There.start ns, rfl, by rw [List.length_range]; rfl, by rw [List.length_range]; omega, Nat.le_refl _, pen.same sH4, But.of sH4, fun R => by rw [d0_dT]; rfl⟩, ?_⟩
    clear hw4 ht4 hz4 sH4 s_w s_t s_z s_u h_w h_t h_z h_u nu nt nz tw tz
    clear t u G1 G2 G3 G4
    rintro m σ G ⟨t, T, Wt, L, k', ⟨y5, y6, y7, y8, y9, y10, y11, rfl⟩, rfl, hw, ht, hS, tw, tz, hT, hW, hTL, hT1, hk', pen', bt, hrun⟩
    refine ⟨_, rfl, t, _, rfl, .inl (SqL.of ht), _, _, rfl, rfl, _, rfl, ite2 (fun c => ?_) (fun c => ?_)⟩
    · have c2 : 2 ≤ T.length := by
        have := of_decide_eq_true c
        rw [List.length_map] at this
        omega
      have t1000 : T.length < 1000 := by omega
      have wat : ∀ x, x ∈ T → (Wt.map V.int)[x]? = some (V.int (Wt.getD x 0)) := fun x hx => by
        have lt := hT.2 x hx
        rw [List.getElem?_map, List.getElem?_eq_getElem lt, List.getD_eq_getElem?_getD, List.getElem?_eq_getElem lt]; rfl
      refine ⟨fun σ' G' => ∃ m', m' < T.length ∧ _, fun _ _ h => h, ?_⟩
      have Tl : T.length < 1000 := t1000
      refine ⟨_, rfl, t, rfl, ⟨_, SqL.of ht⟩, fun D1 nD1 => lc_nat ht nD1 (fun _ => true) (fun x => V.int (Wt.getD x 0)) (fun i x G' hx hC => ⟨rfl, yes_of ⟨_, rfl, _, rfl, w, _, _, _, rfl, rfl, SqL.of (hC.1 _ _ hw), at_of rfl (wat x (id (List.mem_of_getElem? hx))), Cmp.take hC hx rfl rfl nD1 (Tl)⟩⟩) (fun G1 s1 hD1 => ?_)⟩
      rw [List.filter_eq_self.mpr (fun _ _ => rfl), show (T.map fun x => V.int (Wt.getD x 0)) = (T.map fun x => Wt.getD x 0).map V.int by rw [List.map_map]; rfl] at hD1
      refine ⟨D1, _, rfl, SqL.of hD1, by rw [List.length_map]; omega, fun m1 hmm1 hlem1 => ?_⟩
      have hw1 := s1 _ _ hw
      have ht1 := s1 _ _ ht
      have pen1 := pen'.same s1
      refine ⟨_, rfl, _, rfl, t, rfl, ⟨_, SqL.of ht1⟩, fun D2 nD2 => lc_nat ht1 nD2 (fun x => decide (Wt.getD x 0 = m1)) nV (fun i x G' hx hC => ⟨rfl, ⟨_, rfl, _, rfl, w, _, _, _, rfl, rfl, SqL.of (hC.1 _ _ hw1), at_of rfl (wat x (List.mem_of_getElem? hx)), _, rfl, rfl, _, rfl, ?_⟩⟩) (fun G2 s2 h2 => ?_)⟩
      · by_cases e : Wt.getD x 0 = m1
        · rw [show decide (V.int (Wt.getD x 0) = V.int m1) = true from by rw [e]; simp]
          exact iteT ⟨_, rfl, Cmp.take hC hx (decide_eq_true e) rfl nD2 Tl⟩
        · rw [show decide (V.int (Wt.getD x 0) = V.int m1) = false from decide_eq_false fun z => e (by injection z)]
          exact iteF (Cmp.skip hC hx (decide_eq_false e))
      obtain ⟨x0, hx0, ex0⟩ := List.mem_map.mp hmm1
      refine ⟨d, l, D2, _, k', rfl, pen1.same s2, h2, by rw [List.length_map]; exact List.length_pos_of_mem (List.mem_filter.mpr ⟨hx0, decide_eq_true ex0⟩), by rw [List.length_map]; exact Nat.lt_of_le_of_lt (List.length_filter_le _ _) Tl, by omega, fun v3 G3 k3 hv3 hk3 pen3 bt3 => ?_⟩
      obtain ⟨x, hx, rfl⟩ := List.mem_map.mp hv3
      obtain ⟨hxT, hxm⟩ := List.mem_filter.mp hx
      have hxm : Wt.getD x 0 = m1 := of_decide_eq_true hxm
      have minx : ∀ t ∈ T, Wt.getD x 0 ≤ Wt.getD t 0 := fun t ht => hxm ▸ hlem1 _ (List.mem_map.mpr ⟨t, ht, rfl⟩)
      have td : t ≠ d := let ⟨x, e⟩ := pen'.some; ne_of ht e (fun z => nomatch z)
      have ht3 := bt3 _ _ td (s2 _ _ ht1)
      have hw3 := bt3 _ _ wd (s2 _ _ hw1)
      refine ⟨_, rfl, t, rfl, ⟨_, SqL.of ht3⟩, fun D3 nD3 => lc_nat ht3 nD3 (fun t => !decide (t = x)) nV (fun i x' G' hx hC => ⟨rfl, ⟨_, rfl, _, rfl, rfl, _, rfl, ?_⟩⟩) (fun G4 s4 h4 => ?_)⟩
      · show if (!decide (nV x' = nV x)) = true then _ else _
        rw [nV_dec]
        by_cases e : x' = x
        · rw [decide_eq_true e]
          exact iteF (Cmp.skip hC hx (by simp [e]))
        · rw [decide_eq_false e]
          exact iteT ⟨_, rfl, Cmp.take hC hx (by simp [e]) rfl nD3 Tl⟩
      have sub1 : ∀ y ∈ T.filter (fun t => !decide (t = x)), y ∈ T ∧ y ≠ x := fun y hy => ⟨(List.mem_filter.mp hy).1, by have := (List.mem_filter.mp hy).2; simpa using this⟩
      have len1 := len_drop1 hT.1 hxT
      have cut1 : ∀ y a b : Nat, ((a = x ∧ b = y) ∨ (a = y ∧ b = x)) → cutT T (a : Int) (b : Int) = (T.filter fun t => !decide (t = x)).filter fun t => !decide (t = y) := fun y a b h => cutT_eq h
      have hT1m : ∀ t ∈ T, t ≠ x → t ∈ T.filter (fun t => !decide (t = x)) := fun t ht ne => List.mem_filter.mpr ⟨ht, by simp [ne]⟩
      generalize (T.filter fun t => !decide (t = x)) = T1 at *
      have T1l : T1.length < 1000 := by omega
      have hw4 := s4 _ _ hw3
      have pen4 := pen3.same s4
      refine ⟨_, rfl, D3, rfl, ⟨_, SqL.of h4⟩, fun D5 nD5 => lc_nat h4 nD5 (fun _ => true) (fun x => V.int (Wt.getD x 0)) (fun i x G' hx hC => ⟨rfl, yes_of ⟨_, rfl, _, rfl, w, _, _, _, rfl, rfl, SqL.of (hC.1 _ _ hw4), at_of rfl (wat x (sub1 _ (List.mem_of_getElem? hx)).1), Cmp.take hC hx rfl rfl nD5 (T1l)⟩⟩) (fun G5 s5 hD5 => ?_)⟩
      rw [List.filter_eq_self.mpr (fun _ _ => rfl), show (T1.map fun x => V.int (Wt.getD x 0)) = (T1.map fun x => Wt.getD x 0).map V.int by rw [List.map_map]; rfl] at hD5
      refine ⟨D5, _, rfl, SqL.of hD5, by rw [List.length_map]; omega, fun m2 hmm2 hlem2 => ?_⟩
      have hw5 := s5 _ _ hw4
      have hr5 := s5 _ _ h4
      have pen5 := pen4.same s5
      refine ⟨_, rfl, _, rfl, D3, rfl, ⟨_, SqL.of hr5⟩, fun D6 nD6 => lc_nat hr5 nD6 (fun x => decide (Wt.getD x 0 = m2)) nV (fun i x G' hx hC => ⟨rfl, ⟨_, rfl, _, rfl, w, _, _, _, rfl, rfl, SqL.of (hC.1 _ _ hw5), at_of rfl (wat x (sub1 _ (List.mem_of_getElem? hx)).1), _, rfl, rfl, _, rfl, ?_⟩⟩) (fun G6 s6 h6 => ?_)⟩
      · by_cases e : Wt.getD x 0 = m2
        · rw [show decide (V.int (Wt.getD x 0) = V.int m2) = true from by rw [e]; simp]
          exact iteT ⟨_, rfl, Cmp.take hC hx (decide_eq_true e) rfl nD6 T1l⟩
        · rw [show decide (V.int (Wt.getD x 0) = V.int m2) = false from decide_eq_false fun z => e (by injection z)]
          exact iteF (Cmp.skip hC hx (decide_eq_false e))
      obtain ⟨y0, hy0, ey0⟩ := List.mem_map.mp hmm2
      refine ⟨d, l, D6, _, k3, rfl, pen5.same s6, h6, by rw [List.length_map]; exact List.length_pos_of_mem (List.mem_filter.mpr ⟨hy0, decide_eq_true ey0⟩), by rw [List.length_map]; exact Nat.lt_of_le_of_lt (List.length_filter_le _ _) T1l, by omega, fun v7 G7 k7 hv7 hk7 pen7 bt7 => ?_⟩
      obtain ⟨y, hy, rfl⟩ := List.mem_map.mp hv7
      obtain ⟨hyT1, hym⟩ := List.mem_filter.mp hy
      have hym : Wt.getD y 0 = m2 := of_decide_eq_true hym
      obtain ⟨hyT, hyx⟩ := sub1 y hyT1
      refine ⟨_, rfl, d, l, 2, k7, rfl, pen7, by decide, by decide, by omega, fun v8 G8 k8 v8a v8b hk8 pen8 bt8 => ⟨rfl, _, rfl, ?_⟩⟩
      have dl3 : D3 ≠ d := let ⟨x, e⟩ := pen4.some; ne_of h4 e (fun z => nomatch z)
      have b48 : But d G4 G8 := ((But.of (s5.trans s6)).trans bt7).trans bt8
      have b08 : But d G G8 := (((But.of (s1.trans s2)).trans bt3).trans (But.of s4)).trans b48
      have hr8 := b48 _ _ dl3 h4
      have hw8 := b08 _ _ wd hw
      have hS8 : Steps G8 z L := let ⟨qs, q1, q2, q3⟩ := hS; ⟨qs, b08 _ _ zd q1, q2, fun i q o a b => b08 _ _ (let ⟨x, e⟩ := pen'.some; ne_of (q3 i q o a b) e (fun z => nomatch z)) (q3 i q o a b)⟩
      have nw8 : ∀ D, G8 D = none → D ≠ w ∧ D ≠ z := fun D e => ⟨(ne_of_none hw8 e).symm, let ⟨qs, q1, _⟩ := hS8; (ne_of_none q1 e).symm⟩
      have hmin2 : ∀ t ∈ T, t ≠ x → Wt.getD y 0 ≤ Wt.getD t 0 := fun t ht ne => hym ▸ hlem2 _ (List.mem_map.mpr ⟨t, hT1m t ht ne, rfl⟩)
      refine ite2 (fun _ => ?_) (fun _ => ?_)
      · refine ⟨_, rfl, _, rfl, (by show 2 ≤ sizeLine; decide), fun pr npr => ?_⟩
        have hok := draw_ok hxT hyT hyx.symm minx hmin2 (a := x) (b := y) (.inl ⟨rfl, rfl⟩)
        have hcut := cut1 y x y (.inl ⟨rfl, rfl⟩)
        have hlen := hT.len hxT hyT hyx.symm (a := x) (b := y) (.inl ⟨rfl, rfl⟩)
        have hnx := hT.next x y (Wt.getD x 0 + Wt.getD y 0)
        have hstep := step_dT (T := T) (W := Wt) hT.2 (x : Int) (y : Int) (Wt.getD x 0 + Wt.getD y 0)
        have spr : Same G8 (upd G8 pr (.tup [nV x, nV y])) := same_new npr
        have hpr : upd G8 pr (.tup [nV x, nV y]) pr = some (.tup [nV x, nV y]) := upd_same
        generalize upd G8 pr (.tup [nV x, nV y]) = G9 at *
        have hr9 := spr _ _ hr8
        have hw9 := spr _ _ hw8
        refine ⟨_, rfl, D3, rfl, ⟨_, SqL.of hr9⟩, fun D8 nD8 => lc_nat hr9 nD8 (fun t => !decide (t = y)) nV (fun i x' G' hx hC => ⟨rfl, ⟨_, rfl, _, rfl, rfl, _, rfl, ?_⟩⟩) (fun G10 s10 h10 => ?_)⟩
        · show if (!decide (nV x' = nV y)) = true then _ else _
          rw [nV_dec]
          by_cases e : x' = y
          · rw [decide_eq_true e]
            exact iteF (Cmp.skip hC hx (by simp [e]))
          · rw [decide_eq_false e]
            exact iteT ⟨_, rfl, Cmp.take hC hx (by simp [e]) rfl nD8 T1l⟩
        rw [← hcut] at h10
        have hw10 := s10 _ _ hw9
        refine ⟨_, rfl, w, _, rfl, .inl (SqL.of hw10), (by show 1 ≤ sizeLine; decide), fun m8 nm8 => ?_⟩
        rw [List.length_map]
        have sm8 : Same G10 (upd G10 m8 (.lst [nV Wt.length])) := same_new nm8
        have hm8 : upd G10 m8 (.lst [nV Wt.length]) m8 = some (.lst [nV Wt.length]) := upd_same
        have em8 : (HO.lst [V.int ((Wt.length : Nat) : Int)]) = .lst [nV Wt.length] := rfl
        rw [em8]
        generalize upd G10 m8 (.lst [nV Wt.length]) = G11 at *
        refine ⟨_, _, _, _, rfl, rfl, sm8 _ _ h10, hm8, by rw [List.length_map]; show _ + 1 ≤ _; rw [hlen, sizeLine_eq]; omega, fun t2 nt2 => ?_⟩
        have e2 : (cutT T (x : Int) (y : Int)).map nV ++ [nV Wt.length] = (cutT T (x : Int) (y : Int) ++ [Wt.length]).map nV := by rw [List.map_append]; rfl
        rw [e2]
        have st2 : Same G11 (upd G11 t2 (.lst ((cutT T (x : Int) (y : Int) ++ [Wt.length]).map nV))) := same_new nt2
        have ht2 : upd G11 t2 (.lst ((cutT T (x : Int) (y : Int) ++ [Wt.length]).map nV)) t2 = some (.lst ((cutT T (x : Int) (y : Int) ++ [Wt.length]).map nV)) := upd_same
        have s8_12 := (((spr.trans s10).trans sm8).trans st2)
        have t2w : t2 ≠ w := (ne_of_none (sm8 _ _ hw10) nt2).symm
        have hz11 : ∃ o, G11 z = some o := let ⟨qs, q1, _⟩ := hS8; ⟨_, sm8 _ _ (s10 _ _ (spr _ _ q1))⟩
        have t2z : t2 ≠ z := let ⟨o, e⟩ := hz11; (ne_of_none e nt2).symm
        generalize upd G11 t2 (.lst ((cutT T (x : Int) (y : Int) ++ [Wt.length]).map nV)) = G12 at *
        have hw12 := s8_12 _ _ hw8
        have hpr12 := st2 _ _ (sm8 _ _ (s10 _ _ hpr))
        have pen12 := pen8.same s8_12
        refine ⟨_, rfl, .inl ⟨rfl, _, SqL.of hw12⟩, _, rfl, _, rfl, w, _, _, _, rfl, rfl, SqL.of hw12, at_of rfl (wat x hxT), _, rfl, _, rfl, w, _, _, _, rfl, rfl, SqL.of hw12, at_of rfl (wat y hyT), _, _, rfl, rfl, w, _, _, rfl, rfl, hw12, by rw [List.length_map, sizeLine_eq]; omega, ?_⟩
        dsimp only
        generalize hc : Wt.getD x 0 + Wt.getD y 0 = c at *
        have ew : Wt.map V.int ++ [V.int c] = (Wt ++ [c]).map V.int := by rw [List.map_append]; rfl
        rw [ew]
        have hw13 : upd G12 w (.lst ((Wt ++ [c]).map V.int)) w = some (.lst ((Wt ++ [c]).map V.int)) := upd_same
        have fr13 : ∀ b o, b ≠ w → G12 b = some o → upd G12 w (.lst ((Wt ++ [c]).map V.int)) b = some o := fun b o n e => by rw [upd_ne n]; exact e
        have pen13 : Pen (upd G12 w (.lst ((Wt ++ [c]).map V.int))) d l k8 := pen12.upd wd.symm wl.symm
        generalize upd G12 w (.lst ((Wt ++ [c]).map V.int)) = G13 at *
        have prw : pr ≠ w := ne_of hpr12 hw12 (fun z => nomatch z)
        have hz13 : ∃ xs, G13 z = some (.lst xs) := let ⟨qs, q1, _⟩ := hS8; ⟨_, fr13 _ _ wz.symm (s8_12 _ _ q1)⟩
        obtain ⟨xz, hz13⟩ := hz13
        refine ⟨_, rfl, .inl ⟨rfl, _, SqL.of hz13⟩, _, rfl, _, rfl, _, rfl, w, _, _, _, rfl, rfl, SqL.of hw13, (by rw [List.map_append]; exact atI_last _ _), (by show 1 ≤ sizeLine; decide), fun s1' ns1 => ?_⟩
        have ss1 : Same G13 (upd G13 s1' (.tup [V.int c])) := same_new ns1
        have hs1 : upd G13 s1' (.tup [V.int c]) s1' = some (.tup [V.int c]) := upd_same
        generalize upd G13 s1' (.tup [V.int c]) = G14 at *
        refine ⟨pr, s1', _, _, rfl, rfl, SqT.of (ss1 _ _ (fr13 _ _ prw hpr12)), SqT.of hs1, (by show 3 ≤ sizeLine; decide), (fun z => absurd z (by simp)), (fun _ z => absurd z (by simp)), fun _ _ st nst => ?_⟩
        have sst : Same G14 (upd G14 st (.tup [V.int (x : Int), V.int (y : Int), V.int c])) := same_new nst
        have hst : upd G14 st (.tup [V.int (x : Int), V.int (y : Int), V.int c]) st = some (.tup [V.int (x : Int), V.int (y : Int), V.int c]) := upd_same
        have est : ([nV x, nV y] ++ [V.int c]) = [V.int (x : Int), V.int (y : Int), V.int c] := rfl
        rw [est]
        generalize upd G14 st (.tup [V.int (x : Int), V.int (y : Int), V.int c]) = G15 at *
        have f815 : ∀ b o, b ≠ w → G8 b = some o → G15 b = some o := fun b o n e => sst _ _ (ss1 _ _ (fr13 _ _ n (s8_12 _ _ e)))
        obtain ⟨qs, q1, q2, q3⟩ := hS8
        have hz15 := f815 _ _ wz.symm q1
        refine ⟨z, _, _, rfl, rfl, hz15, by rw [List.length_map, q2, sizeLine_eq]; omega, ?_⟩
        have stz : st ≠ z := ne_of hst hz15 (fun z => nomatch z)
        have fz : ∀ b o, b ≠ z → G15 b = some o → upd G15 z (.lst (qs.map V.ref ++ [V.ref st])) b = some o := fun b o n e => by rw [upd_ne n]; exact e
        have pen15 : Pen G15 d l k8 := pen13.same (ss1.trans sst)
        refine ⟨(cutT T (x : Int) (y : Int) ++ [Wt.length]).length, by rw [List.length_append, hlen]; show _ + 1 < _; omega, t2, _, Wt ++ [c], L ++ [((x : Int), (y : Int), c)], k8, ⟨_, _, _, _, _, _, _, rfl⟩, rfl, fz _ _ wz (sst _ _ (ss1 _ _ hw13)), fz _ _ t2z (sst _ _ (ss1 _ _ (fr13 _ _ t2w ht2))), ⟨qs ++ [st], ?_, by rw [List.length_append, List.length_append, q2]; rfl, fun i q o a b => ?_⟩, t2w, t2z, hnx, by rw [List.length_append, List.length_append, hW]; show _ + 1 = _ + (_ + 1); omega, by rw [List.length_append, List.length_append, hlen]; show _ + 1 + (_ + 1) = _; omega, by rw [List.length_append]; exact Nat.le_add_left _ _, by rw [List.length_append]; show _ ≤ k + 3 * (_ + 1); omega, pen15.upd zd.symm zl.symm, fun b o n e => ?_, fun R => ?_⟩
        · rw [upd_same, List.map_append]; rfl
        · by_cases lt : i < qs.length
          · rw [List.getElem?_append_left lt] at a
            rw [List.getElem?_append_left (by omega)] at b
            have q4 := q3 i q o a b
            exact fz _ _ (ne_of (f815 _ _ (ne_of q4 hw8 (fun z => nomatch z)) q4) hz15 (fun z => nomatch z)) (f815 _ _ (ne_of q4 hw8 (fun z => nomatch z)) q4)
          · rw [List.getElem?_append_right (by omega)] at a
            rw [List.getElem?_append_right (by omega)] at b
            have e0 : i - qs.length = 0 := by
              have := (List.getElem?_eq_some_iff.mp a).1
              simp at this
              omega
            rw [e0] at a
            rw [show i - L.length = 0 by omega] at b
            cases a; cases b
            exact fz _ _ stz hst
        · have n1 : b ≠ w := ne_of_none e nw
          have n2 : b ≠ z := ne_of_none e nzH
          exact fz _ _ n2 (f815 _ _ n1 (b08 _ _ n (bt _ _ n e)))
        · rw [List.map_append, List.append_assoc, hrun]
          show (okD (dT T Wt) (x : Int) (y : Int) c && run (cut (dT T Wt) (x : Int) (y : Int) ++ [(((ns.length + L.length : Nat) : Int), c)]) (ns.length + L.length + 1) R) = _
          rw [hok, Bool.true_and, ← hW, hstep, hW, List.length_append]
          rfl
      · refine ⟨_, rfl, _, rfl, (by show 2 ≤ sizeLine; decide), fun pr npr => ?_⟩
        have hok := draw_ok hxT hyT hyx.symm minx hmin2 (a := y) (b := x) (.inr ⟨rfl, rfl⟩)
        have hcut := cut1 y y x (.inr ⟨rfl, rfl⟩)
        have hlen := hT.len hxT hyT hyx.symm (a := y) (b := x) (.inr ⟨rfl, rfl⟩)
        have hnx := hT.next y x (Wt.getD x 0 + Wt.getD y 0)
        have hstep := step_dT (T := T) (W := Wt) hT.2 (y : Int) (x : Int) (Wt.getD x 0 + Wt.getD y 0)
        have spr : Same G8 (upd G8 pr (.tup [nV y, nV x])) := same_new npr
        have hpr : upd G8 pr (.tup [nV y, nV x]) pr = some (.tup [nV y, nV x]) := upd_same
        generalize upd G8 pr (.tup [nV y, nV x]) = G9 at *
        have hr9 := spr _ _ hr8
        have hw9 := spr _ _ hw8
        refine ⟨_, rfl, D3, rfl, ⟨_, SqL.of hr9⟩, fun D8 nD8 => lc_nat hr9 nD8 (fun t => !decide (t = y)) nV (fun i x' G' hx hC => ⟨rfl, ⟨_, rfl, _, rfl, rfl, _, rfl, ?_⟩⟩) (fun G10 s10 h10 => ?_)⟩
        · show if (!decide (nV x' = nV y)) = true then _ else _
          rw [nV_dec]
          by_cases e : x' = y
          · rw [decide_eq_true e]
            exact iteF (Cmp.skip hC hx (by simp [e]))
          · rw [decide_eq_false e]
            exact iteT ⟨_, rfl, Cmp.take hC hx (by simp [e]) rfl nD8 T1l⟩
        rw [← hcut] at h10
        have hw10 := s10 _ _ hw9
        refine ⟨_, rfl, w, _, rfl, .inl (SqL.of hw10), (by show 1 ≤ sizeLine; decide), fun m8 nm8 => ?_⟩
        rw [List.length_map]
        have sm8 : Same G10 (upd G10 m8 (.lst [nV Wt.length])) := same_new nm8
        have hm8 : upd G10 m8 (.lst [nV Wt.length]) m8 = some (.lst [nV Wt.length]) := upd_same
        have em8 : (HO.lst [V.int ((Wt.length : Nat) : Int)]) = .lst [nV Wt.length] := rfl
        rw [em8]
        generalize upd G10 m8 (.lst [nV Wt.length]) = G11 at *
        refine ⟨_, _, _, _, rfl, rfl, sm8 _ _ h10, hm8, by rw [List.length_map]; show _ + 1 ≤ _; rw [hlen, sizeLine_eq]; omega, fun t2 nt2 => ?_⟩
        have e2 : (cutT T (y : Int) (x : Int)).map nV ++ [nV Wt.length] = (cutT T (y : Int) (x : Int) ++ [Wt.length]).map nV := by rw [List.map_append]; rfl
        rw [e2]
        have st2 : Same G11 (upd G11 t2 (.lst ((cutT T (y : Int) (x : Int) ++ [Wt.length]).map nV))) := same_new nt2
        have ht2 : upd G11 t2 (.lst ((cutT T (y : Int) (x : Int) ++ [Wt.length]).map nV)) t2 = some (.lst ((cutT T (y : Int) (x : Int) ++ [Wt.length]).map nV)) := upd_same
        have s8_12 := (((spr.trans s10).trans sm8).trans st2)
        have t2w : t2 ≠ w := (ne_of_none (sm8 _ _ hw10) nt2).symm
        have hz11 : ∃ o, G11 z = some o := let ⟨qs, q1, _⟩ := hS8; ⟨_, sm8 _ _ (s10 _ _ (spr _ _ q1))⟩
        have t2z : t2 ≠ z := let ⟨o, e⟩ := hz11; (ne_of_none e nt2).symm
        generalize upd G11 t2 (.lst ((cutT T (y : Int) (x : Int) ++ [Wt.length]).map nV)) = G12 at *
        have hw12 := s8_12 _ _ hw8
        have hpr12 := st2 _ _ (sm8 _ _ (s10 _ _ hpr))
        have pen12 := pen8.same s8_12
        refine ⟨_, rfl, .inl ⟨rfl, _, SqL.of hw12⟩, _, rfl, _, rfl, w, _, _, _, rfl, rfl, SqL.of hw12, at_of rfl (wat x hxT), _, rfl, _, rfl, w, _, _, _, rfl, rfl, SqL.of hw12, at_of rfl (wat y hyT), _, _, rfl, rfl, w, _, _, rfl, rfl, hw12, by rw [List.length_map, sizeLine_eq]; omega, ?_⟩
        dsimp only
        generalize hc : Wt.getD x 0 + Wt.getD y 0 = c at *
        have ew : Wt.map V.int ++ [V.int c] = (Wt ++ [c]).map V.int := by rw [List.map_append]; rfl
        rw [ew]
        have hw13 : upd G12 w (.lst ((Wt ++ [c]).map V.int)) w = some (.lst ((Wt ++ [c]).map V.int)) := upd_same
        have fr13 : ∀ b o, b ≠ w → G12 b = some o → upd G12 w (.lst ((Wt ++ [c]).map V.int)) b = some o := fun b o n e => by rw [upd_ne n]; exact e
        have pen13 : Pen (upd G12 w (.lst ((Wt ++ [c]).map V.int))) d l k8 := pen12.upd wd.symm wl.symm
        generalize upd G12 w (.lst ((Wt ++ [c]).map V.int)) = G13 at *
        have prw : pr ≠ w := ne_of hpr12 hw12 (fun z => nomatch z)
        have hz13 : ∃ xs, G13 z = some (.lst xs) := let ⟨qs, q1, _⟩ := hS8; ⟨_, fr13 _ _ wz.symm (s8_12 _ _ q1)⟩
        obtain ⟨xz, hz13⟩ := hz13
        refine ⟨_, rfl, .inl ⟨rfl, _, SqL.of hz13⟩, _, rfl, _, rfl, _, rfl, w, _, _, _, rfl, rfl, SqL.of hw13, (by rw [List.map_append]; exact atI_last _ _), (by show 1 ≤ sizeLine; decide), fun s1' ns1 => ?_⟩
        have ss1 : Same G13 (upd G13 s1' (.tup [V.int c])) := same_new ns1
        have hs1 : upd G13 s1' (.tup [V.int c]) s1' = some (.tup [V.int c]) := upd_same
        generalize upd G13 s1' (.tup [V.int c]) = G14 at *
        refine ⟨pr, s1', _, _, rfl, rfl, SqT.of (ss1 _ _ (fr13 _ _ prw hpr12)), SqT.of hs1, (by show 3 ≤ sizeLine; decide), (fun z => absurd z (by simp)), (fun _ z => absurd z (by simp)), fun _ _ st nst => ?_⟩
        have sst : Same G14 (upd G14 st (.tup [V.int (y : Int), V.int (x : Int), V.int c])) := same_new nst
        have hst : upd G14 st (.tup [V.int (y : Int), V.int (x : Int), V.int c]) st = some (.tup [V.int (y : Int), V.int (x : Int), V.int c]) := upd_same
        have est : ([nV y, nV x] ++ [V.int c]) = [V.int (y : Int), V.int (x : Int), V.int c] := rfl
        rw [est]
        generalize upd G14 st (.tup [V.int (y : Int), V.int (x : Int), V.int c]) = G15 at *
        have f815 : ∀ b o, b ≠ w → G8 b = some o → G15 b = some o := fun b o n e => sst _ _ (ss1 _ _ (fr13 _ _ n (s8_12 _ _ e)))
        obtain ⟨qs, q1, q2, q3⟩ := hS8
        have hz15 := f815 _ _ wz.symm q1
        refine ⟨z, _, _, rfl, rfl, hz15, by rw [List.length_map, q2, sizeLine_eq]; omega, ?_⟩
        have stz : st ≠ z := ne_of hst hz15 (fun z => nomatch z)
        have fz : ∀ b o, b ≠ z → G15 b = some o → upd G15 z (.lst (qs.map V.ref ++ [V.ref st])) b = some o := fun b o n e => by rw [upd_ne n]; exact e
        have pen15 : Pen G15 d l k8 := pen13.same (ss1.trans sst)
        refine ⟨(cutT T (y : Int) (x : Int) ++ [Wt.length]).length, by rw [List.length_append, hlen]; show _ + 1 < _; omega, t2, _, Wt ++ [c], L ++ [((y : Int), (x : Int), c)], k8, ⟨_, _, _, _, _, _, _, rfl⟩, rfl, fz _ _ wz (sst _ _ (ss1 _ _ hw13)), fz _ _ t2z (sst _ _ (ss1 _ _ (fr13 _ _ t2w ht2))), ⟨qs ++ [st], ?_, by rw [List.length_append, List.length_append, q2]; rfl, fun i q o a b => ?_⟩, t2w, t2z, hnx, by rw [List.length_append, List.length_append, hW]; show _ + 1 = _ + (_ + 1); omega, by rw [List.length_append, List.length_append, hlen]; show _ + 1 + (_ + 1) = _; omega, by rw [List.length_append]; exact Nat.le_add_left _ _, by rw [List.length_append]; show _ ≤ k + 3 * (_ + 1); omega, pen15.upd zd.symm zl.symm, fun b o n e => ?_, fun R => ?_⟩
        · rw [upd_same, List.map_append]; rfl
        · by_cases lt : i < qs.length
          · rw [List.getElem?_append_left lt] at a
            rw [List.getElem?_append_left (by omega)] at b
            have q4 := q3 i q o a b
            exact fz _ _ (ne_of (f815 _ _ (ne_of q4 hw8 (fun z => nomatch z)) q4) hz15 (fun z => nomatch z)) (f815 _ _ (ne_of q4 hw8 (fun z => nomatch z)) q4)
          · rw [List.getElem?_append_right (by omega)] at a
            rw [List.getElem?_append_right (by omega)] at b
            have e0 : i - qs.length = 0 := by
              have := (List.getElem?_eq_some_iff.mp a).1
              simp at this
              omega
            rw [e0] at a
            rw [show i - L.length = 0 by omega] at b
            cases a; cases b
            exact fz _ _ stz hst
        · have n1 : b ≠ w := ne_of_none e nw
          have n2 : b ≠ z := ne_of_none e nzH
          exact fz _ _ n2 (f815 _ _ n1 (b08 _ _ n (bt _ _ n e)))
        · rw [List.map_append, List.append_assoc, hrun]
          show (okD (dT T Wt) (y : Int) (x : Int) c && run (cut (dT T Wt) (y : Int) (x : Int) ++ [(((ns.length + L.length : Nat) : Int), c)]) (ns.length + L.length + 1) R) = _
          rw [hok, Bool.true_and, ← hW, hstep, hW, List.length_append]
          rfl
    · have e1 : T.length = 1 := by
        have this : ¬ ((1 : Int) < (((T.map nV).length : Nat) : Int)) := fun z => c (decide_eq_true z)
        rw [List.length_map] at this
        omega
      refine ⟨_, rfl, kq z L G k' hS (by omega) ?_ (by omega) pen' bt⟩
      show (decide ((L.map some).length = ns.length - 1) && run (d0 ns) ns.length (L.map some)) = true
      have e2 := hrun []
      rw [List.append_nil] at e2
      rw [e2, List.length_map, decide_eq_true (by omega)]
      rfl
end
end Z

set_option Elab.async false
set_option linter.all false
set_option maxRecDepth 100000
set_option maxHeartbeats 8000000
/-! the law's own walk through the steps -/
namespace Z
open PySem L2 XV KJ
theorem Stps.kind2 {K : PySem.W.Frag} {H : Hp} {v : V} {o : Option (List (Option (Int × Int × Int)))} (h : Stps H v o) : ∃ u, TyX K H v u ∧ PySem.W.kitAny K u [.type "tuple", .type "list"] = some o.isSome := by
  cases h with
  | seq h _ _ =>
    rcases h with h | h
    · exact ⟨_, .base (.lst h), kitA2 (a := false) (b := true) (kit_ty (by decide +kernel)) (kit_ty (by decide +kernel))⟩
    · exact ⟨_, .base (.tup h), kitA2 (a := true) (b := false) (kit_ty (by decide +kernel)) (kit_ty (by decide +kernel))⟩
  | atom h f => cases h with
    | non => exact ⟨_, .base .non, kitA2 (a := false) (b := false) (kit_ty (by decide +kernel)) (kit_ty (by decide +kernel))⟩
    | bl b => exact ⟨_, .base (.bl b), kitA2 (a := false) (b := false) (kit_ty (by decide +kernel)) (kit_ty (by decide +kernel))⟩
    | int i => exact ⟨_, .base (.int i), kitA2 (a := false) (b := false) (kit_ty (by decide +kernel)) (kit_ty (by decide +kernel))⟩
    | str x => exact ⟨_, .base (.str x), kitA2 (a := false) (b := false) (kit_ty (by decide +kernel)) (kit_ty (by decide +kernel))⟩
    | lst h => exact absurd rfl (f _)
    | tup h => exact absurd rfl (f _)
    | dct h => exact absurd rfl (f _)
  | dct h => exact ⟨_, .base (.dK h), kitA2 (a := false) (b := false) (kit_ty (by decide +kernel)) (kit_ty (by decide +kernel))⟩
theorem Stp.kind2 {K : PySem.W.Frag} {H : Hp} {v : V} {o : Option (Int × Int × Int)} (h : Stp H v o) :
    (∃ p xs, v = .ref p ∧ SqH H p xs ∧ (∀ x ∈ xs, Odd H x ∧ flat x) ∧ o = tripleOf xs ∧ ∃ u, TyX K H v u ∧ PySem.W.kitAny K u [.type "tuple", .type "list"] = some true) ∨ (o = none ∧ ∃ u, TyX K H v u ∧ PySem.W.kitAny K u [.type "tuple", .type "list"] = some false) := by
  cases h with
  | @seq p xs h hx =>
    refine .inl ⟨p, xs, rfl, h, hx, rfl, ?_⟩
    rcases h with h | h
    · exact ⟨_, .base (.lst h), kitA2 (a := false) (b := true) (kit_ty (by decide +kernel)) (kit_ty (by decide +kernel))⟩
    · exact ⟨_, .base (.tup h), kitA2 (a := true) (b := false) (kit_ty (by decide +kernel)) (kit_ty (by decide +kernel))⟩
  | atom h f =>
    refine .inr ⟨rfl, ?_⟩
    cases h with
    | non => exact ⟨_, .base .non, kitA2 (a := false) (b := false) (kit_ty (by decide +kernel)) (kit_ty (by decide +kernel))⟩
    | bl b => exact ⟨_, .base (.bl b), kitA2 (a := false) (b := false) (kit_ty (by decide +kernel)) (kit_ty (by decide +kernel))⟩
    | int i => exact ⟨_, .base (.int i), kitA2 (a := false) (b := false) (kit_ty (by decide +kernel)) (kit_ty (by decide +kernel))⟩
    | str x => exact ⟨_, .base (.str x), kitA2 (a := false) (b := false) (kit_ty (by decide +kernel)) (kit_ty (by decide +kernel))⟩
    | lst h => exact absurd rfl (f _)
    | tup h => exact absurd rfl (f _)
    | dct h => exact absurd rfl (f _)
  | dct h => exact .inr ⟨rfl, _, .base (.dK h), kitA2 (a := false) (b := false) (kit_ty (by decide +kernel)) (kit_ty (by decide +kernel))⟩
theorem inV_nodes (a : Int) (T : List Nat) : inV (.int a) (T.map nV) = decide (a ∈ T.map fun (t : Nat) => (t : Int)) := by
  unfold inV
  rw [List.any_map]
  induction T with
  | nil => rfl
  | cons t T ih =>
    rw [List.any_cons, ih, List.map_cons]
    show (((t : Int) == a) || _) = _
    rw [Bool.eq_iff_iff]
    simp only [Bool.or_eq_true, beq_iff_eq, decide_eq_true_eq, List.mem_cons]
    exact or_congr ⟨fun h => h.symm, fun h => h.symm⟩ Iff.rfl
theorem flat_nodes (T : List Nat) : (T.map nV).all flatV = true := by
  rw [List.all_map, List.all_eq_true]
  intro t _
  rfl
theorem in_two (x : Nat) (a b : Int) : (!inV (nV x) [.int a, .int b]) = (!decide ((x : Int) = a) && !decide ((x : Int) = b)) := by
  show (!((a == (x : Int)) || ((b == (x : Int)) || false))) = _
  rw [Bool.or_false, Bool.not_or]
  have e : ∀ c : Int, (c == (x : Int)) = decide ((x : Int) = c) := fun c => by
    rw [Bool.eq_iff_iff]
    simp only [beq_iff_eq, decide_eq_true_eq]
    exact ⟨fun h => h.symm, fun h => h.symm⟩
  rw [e, e]
theorem Cmp.same {H1 G G2 : Hp} {D : Addr} {ts : List Nat} {f : Nat → Bool} {e : Nat → V} {i : Nat} (h : Cmp H1 D ts f e i G) (s : Same G G2) : Cmp H1 D ts f e i G2 := ⟨h.1.trans s, s _ _ h.2⟩
theorem any_not {T : List Nat} {W : List Int} {m : Int} : (T.map fun t => decide (W.getD t 0 < m)).any id = !((dT T W).map fun q => decide (m ≤ q.2)).all id := by
  unfold dT
  rw [List.map_map, List.any_map, List.all_map]
  induction T with
  | nil => rfl
  | cons t T ih =>
    rw [List.any_cons, List.all_cons, ih, Bool.not_and]
    congr 1
    show decide (W.getD t 0 < m) = !decide (m ≤ W.getD t 0)
    by_cases h : W.getD t 0 < m
    · rw [decide_eq_true h, decide_eq_false (by omega)]; rfl
    · rw [decide_eq_false h, decide_eq_true (by omega)]; rfl
def spRight : Sp := fun vs H Q _ => ∃ (c : Addr) (ns : List Int) (v : V) (S : Option (List (Option (Int × Int × Int)))), vs = [.ref c, v] ∧ H c = some (.lst (ns.map V.int)) ∧ 2 ≤ ns.length ∧ ns.length ≤ 26 ∧ Stps H v S ∧ ∀ G, Same H G → Q (.bl (jd ns S)) G
section
variable {P : Program} {w : World} {K : PySem.W.Frag} {mg : Str → Option Value} {base : Heap} {A : Ad}
theorem sc_isright : FnScope ["_law_counts", "_law_steps", "_law_weights", "_law_there", "_law_step", "_law_heavier", "_law_node", "_law_part"] ["_law_counts", "_law_steps"] (defScope s_isright) := ⟨rfl, rfl, rfl, by decide +kernel, rfl, by decide +kernel, by decide +kernel⟩
theorem ok_isright (T : Txt K mg A) : FnOk P w K mg base CX0 2 A.a_isright A.d_isright ["_law_counts", "_law_steps"] spRight := by
  have G_isnumber := ok_isnumber (P := P) (w := w) (base := base) T
  refine T.F_isright.ok sc_isright (fun vs H Q E h => ?_) (fun cdv Ar outer s H vs Q E hr h => ?_)
  · obtain ⟨c, ns, v, S, rfl, _⟩ := h; rfl
  · obtain ⟨c, ns, v, S, rfl, hc, n2, n26, hv, kq⟩ := h
    refine ⟨_, (pss_cons (ps_if (PW.pt (pw_or (pt_not (pt_val (pe_callB call_isiT (by rfl) T.z_isinstance (by decide +kernel) (pa_cons (pv 1) (pa_cons (pe_tup (pa_cons (pe_bltn (v := .ty "tuple") (by rfl) T.z_tuple (by decide +kernel) rfl) (pa_cons (pe_bltn (v := .ty "list") (by rfl) T.z_list (by decide +kernel) rfl) pa_nil))) pa_nil))))) (pw_or1 (pt_cmpR op_ne (pe_callB call_len_seq (by rfl) T.z_len PySem.boot_len (pa_cons (pv 1) pa_nil)) (pe_op op_sub (pe_callB call_len_seq (by rfl) T.z_len PySem.boot_len (pa_cons (pv 0) pa_nil)) pe_int) (nomark _))))) (pss_one (ps_ret pe_bl))
        pss_nil)
      (pss_cons (ps_asg (pe_tup (pa_cons (pe_callTy call_list_of (by rfl) T.z_list (by decide +kernel) (pa_cons (pv 0) pa_nil)) (pa_cons (pe_listRg (by rfl) (by rfl) T.z_list (prg_1 (by rfl) T.z_range (pe_callB call_len_seq (by rfl) T.z_len PySem.boot_len (pa_cons (pv 0) pa_nil)))) pa_nil))) (pg_tup (by rfl) (pgs_cons (pg_name (i := 2) sc_isright.nd rfl (Or.inr rfl)) (pgs_cons (pg_name (i := 3) sc_isright.nd rfl (Or.inl rfl)) pgs_nil))))
      (pss_cons (ps_for PassesOwn.never rfl (pi_or (pi_list (pv 1)) (pi_tup (pv 1))) (pg_name (i := 4) sc_isright.nd rfl (Or.inr rfl))
         (pss_cons (ps_if (PW.pt (pw_or (pt_not (pt_val (pe_callB call_isiT (by rfl) T.z_isinstance (by decide +kernel) (pa_cons (pv 4) (pa_cons (pe_tup (pa_cons (pe_bltn (v := .ty "tuple") (by rfl) T.z_tuple (by decide +kernel) rfl) (pa_cons (pe_bltn (v := .ty "list") (by rfl) T.z_list (by decide +kernel) rfl) pa_nil))) pa_nil))))) (pw_or (pt_cmpR op_ne (pe_callB call_len_seq (by rfl) T.z_len PySem.boot_len (pa_cons (pv 4) pa_nil)) pe_int (nomark _)) (pw_or1 (pt_not (pt_val (pe_callB (cr_all rfl) (by rfl) T.z_all (by decide +kernel) (pa_cons (pe_lc (own := [("_law_part", 7)]) (by rfl) sc_isright.nd (pi_or (pi_list (pv 4)) (pi_tup (pv 4))) (blkOk_by (own := [("_law_part", 7)]) (N := ["_law_counts", "_law_steps", "_law_weights", "_law_there", "_law_step", "_law_heavier", "_law_node", "_law_part"]) (sc := defScope s_isright) (by decide +kernel)) (fun _ _ _ _ _ => (pg_name (i := 7) sc_isright.nd rfl (Or.inl rfl))) (fun _ _ _ _ _ => pts_nil) (fun _ _ _ _ _ => (pe_call G_isnumber (hr.mono (by decide)) (by rfl) T.g_isnumber T.F_isnumber.kp T.b_isnumber .nil pass0 (pa_cons (pv 7) pa_nil)))) pa_nil)))))))) (pss_one (ps_ret pe_bl))
           pss_nil)
         (pss_cons (ps_if (PW.pt (pw_or (pt_cmpR op_eq (pe_ix ix_seq (pv 4) pe_int (fun _ _ => rfl)) (pe_ix ix_seq (pv 4) pe_int (fun _ _ => rfl)) (nomark _)) (pw_or (pt_cmpR op_notIn_seq (pe_ix ix_seq (pv 4) pe_int (fun _ _ => rfl)) (pv 3) rfl) (pw_or1 (pt_cmpR op_notIn_seq (pe_ix ix_seq (pv 4) pe_int (fun _ _ => rfl)) (pv 3) rfl))))) (pss_one (ps_ret pe_bl))
           pss_nil)
         (pss_cons (ps_setLc (i := 3) (own := [("_law_node", 6)]) (by rfl) sc_isright.nd rfl rfl (sw_true rfl rfl rfl (by decide +kernel)) (pi_list (pv 3)) (blkOk_by (own := [("_law_node", 6)]) (N := ["_law_counts", "_law_steps", "_law_weights", "_law_there", "_law_step", "_law_heavier", "_law_node", "_law_part"]) (sc := defScope s_isright) (by decide +kernel)) (fun _ _ _ _ _ => (pg_name (i := 6) sc_isright.nd rfl (Or.inl rfl))) (fun _ _ _ _ _ => (pts_one (pt_cmpR (r := rIn K true) op_notIn_seq (pv 6) (pe_tup (pa_cons (pe_ix (r := rIx K) ix_seq (pv 4) pe_int (fun _ _ => rfl)) (pa_cons (pe_ix (r := rIx K) ix_seq (pv 4) pe_int (fun _ _ => rfl)) pa_nil))) rfl))) (fun _ _ _ _ _ => (pv 6)))
         (pss_cons (ps_set (i := 5) sc_isright.nd rfl (Or.inr rfl) (pe_callB (call_max2 rfl) (by rfl) T.z_max (by decide +kernel) (pa_cons (pe_ix ix_list (pv 2) (pe_ix ix_seq (pv 4) pe_int (fun _ _ => rfl)) (fun _ _ => rfl)) (pa_cons (pe_ix ix_list (pv 2) (pe_ix ix_seq (pv 4) pe_int (fun _ _ => rfl)) (fun _ _ => rfl)) pa_nil))))
         (pss_cons (ps_if (PW.pt (pw_or (pt_val (pe_callB (cr_any rfl) (by rfl) T.z_any (by decide +kernel) (pa_cons (pe_lc (own := [("_law_node", 6)]) (by rfl) sc_isright.nd (pi_list (pv 3)) (blkOk_by (own := [("_law_node", 6)]) (N := ["_law_counts", "_law_steps", "_law_weights", "_law_there", "_law_step", "_law_heavier", "_law_node", "_law_part"]) (sc := defScope s_isright) (by decide +kernel)) (fun _ _ _ _ _ => (pg_name (i := 6) sc_isright.nd rfl (Or.inl rfl))) (fun _ _ _ _ _ => pts_nil) (fun _ _ _ _ _ => (pe_cmpR op_lt (pe_ix (r := rIxL K) ix_list (pv 2) (pv 6) (fun _ _ => rfl)) (pv 5) (nomark _)))) pa_nil))) (pw_or1 (pt_cmpR op_ne (pe_ix ix_seq (pv 4) pe_int (fun _ _ => rfl)) (pe_op op_add (pe_ix ix_list (pv 2) (pe_ix ix_seq (pv 4) pe_int (fun _ _ => rfl)) (fun _ _ => rfl)) (pe_ix ix_list (pv 2) (pe_ix ix_seq (pv 4) pe_int (fun _ _ => rfl)) (fun _ _ => rfl))) (nomark _))))) (pss_one (ps_ret pe_bl))
           pss_nil)
         (pss_cons (ps_expr (pe_bm PySem.F.plainAttrs_list PySem.F.slot_list_append PySem.F.type_list_append mt_append (pv 3) (pa_cons (pe_callB call_len_seq (by rfl) T.z_len PySem.boot_len (pa_cons (pv 2) pa_nil)) pa_nil)))
         (pss_one (ps_expr (pe_bm PySem.F.plainAttrs_list PySem.F.slot_list_append PySem.F.type_list_append mt_append (pv 2) (pa_cons (pe_ix ix_seq (pv 4) pe_int (fun _ _ => rfl)) pa_nil)))))))))))
      (pss_one (ps_ret pe_bl))))), ?_⟩
    refine ⟨_, rfl, (by show 2 ≤ sizeLine; decide), fun tt ntt => ?_⟩
    have s1 : Same H (upd H tt (.tup [.ty "tuple", .ty "list"])) := same_new ntt
    have et : upd H tt (.tup [.ty "tuple", .ty "list"]) tt = _ := upd_same
    obtain ⟨u, hty, hkit⟩ := (hv.same s1).kind2 (K := K)
    refine ⟨_, tt, _, u, _, _, rfl, et, .cons (.ty "tuple") (.cons (.ty "list") .nil), hty, hkit, _, rfl, ?_⟩
    clear et hty hkit
    generalize upd H tt (.tup [.ty "tuple", .ty "list"]) = G1 at *
    have hv1 := hv.same s1
    have hc1 := s1 _ _ hc
    cases hv1 with
    | atom _ _ => exact iteT (kq G1 s1)
    | dct _ => exact iteT (kq G1 s1)
    | @seq p vs L h hl hx =>
    refine iteF ⟨_, rfl, p, vs, rfl, h.sq, _, rfl, c, _, rfl, .inl (SqL.of hc1), _, _, rfl, rfl, rfl, _, rfl, ?_⟩
    rw [List.length_map]
    by_cases cl : vs.length = ns.length - 1
    · rw [show (!decide (V.int ((vs.length : Nat) : Int) = V.int ((ns.length : Int) - 1))) = false from by
        rw [show ((ns.length : Int) - 1) = ((vs.length : Nat) : Int) from by omega]; simp]
      refine iteF ?_
      have e0 : jd ns (some L) = run (d0 ns) ns.length L := by
        show (decide (L.length = ns.length - 1) && run (d0 ns) ns.length L) = _
        rw [decide_eq_true (show L.length = ns.length - 1 by omega), Bool.true_and]
      rw [e0] at kq
      refine ⟨_, rfl, c, _, rfl, .inl (SqL.of hc1), fun w nw => ?_⟩
      have s_w : Same G1 (upd G1 w (.lst (ns.map V.int))) := same_new nw
      have h_w : upd G1 w (.lst (ns.map V.int)) w = some (.lst (ns.map V.int)) := upd_same
      generalize upd G1 w (.lst (ns.map V.int)) = G2 at *
      refine ⟨_, rfl, c, _, rfl, .inl (SqL.of (s_w _ _ hc1)), _, rfl, by rw [List.length_map]; exact RgOk.of_le (Int.le_refl 0) (by omega) (by decide) (by omega), fun t nt => ?_⟩
      rw [List.length_map, rg_nat]
      have s_t : Same G2 (upd G2 t (.lst ((List.range ns.length).map nV))) := same_new nt
      have h_t : upd G2 t (.lst ((List.range ns.length).map nV)) t = some (.lst ((List.range ns.length).map nV)) := upd_same
      generalize upd G2 t (.lst ((List.range ns.length).map nV)) = G3 at *
      refine ⟨(by show 2 ≤ sizeLine; decide), fun u nu => ?_⟩
      have s_u : Same G3 (upd G3 u (.tup [V.ref w, V.ref t])) := same_new nu
      have h_u : upd G3 u (.tup [V.ref w, V.ref t]) u = some (.tup [V.ref w, V.ref t]) := upd_same
      generalize upd G3 u (.tup [V.ref w, V.ref t]) = G4 at *
      refine ⟨u, _, rfl, SqT.of h_u, rfl, _, _, rfl, _, _, rfl, rfl, ?_⟩
      have tw : t ≠ w := (ne_of_none h_w nt).symm
      refine seq_read (a := p) (xs := vs) rfl (eachB (B := G1) h.sq (fun i ρ G => ∃ (t : Addr) (T : List Nat) (Wt : List Int), (∃ y4 y5 y6 y7, ρ = [some (.ref c), some (.ref p), some (.ref w), some (.ref t), y4, y5, y6, y7]) ∧ Same G1 G ∧ G w = some (.lst (Wt.map V.int)) ∧ G t = some (.lst (T.map nV)) ∧ t ≠ w ∧ There T Wt ∧ Wt.length = ns.length + i ∧ T.length ≤ ns.length + i ∧ run (d0 ns) ns.length L = run (dT T Wt) (ns.length + i) (L.drop i)) (fun _ _ _ h => let ⟨_, _, _, _, s, _⟩ := h; s)
        ⟨t, _, ns, ⟨_, _, _, _, rfl⟩, (s_w.trans s_t).trans s_u, s_u _ _ (s_t _ _ h_w), s_u _ _ h_t, tw, There.start ns, rfl, by rw [List.length_range]; exact Nat.le_refl _, by rw [d0_dT]; rfl⟩ ?_ ?_)
      · clear s_w h_w s_t h_t s_u h_u nt nu tw
        clear t u G2 G3 G4
        rintro i x ρ G hxi ⟨t, T, Wt, ⟨y4, y5, y6, y7, rfl⟩, sm, hw, ht, tw, hT, hW, hTl, hr0⟩
        have li : i < L.length := by have := (List.getElem?_eq_some_iff.mp hxi).1; omega
        have hLi : L[i]? = some L[i] := List.getElem?_eq_getElem li
        have hdrop : L.drop i = L[i] :: L.drop (i + 1) := List.drop_eq_getElem_cons li
        rw [hdrop] at hr0
        have st0 := (hx i x L[i] hxi hLi).same sm
        rw [hr0] at kq
        generalize L[i] = o at st0 kq hr0
        clear hLi hdrop
        have i26 : i < 26 := by omega
        have t1000 : T.length < 1000 := by omega
        refine ⟨_, rfl, (by show 2 ≤ sizeLine; decide), fun t2 nt2 => ?_⟩
        have s2 : Same G (upd G t2 (.tup [.ty "tuple", .ty "list"])) := same_new nt2
        have et : upd G t2 (.tup [.ty "tuple", .ty "list"]) t2 = _ := upd_same
        have st1 := st0.same s2
        generalize upd G t2 (.tup [.ty "tuple", .ty "list"]) = G2 at *
        have sm2 := sm.trans s2
        rcases st1.kind2 (K := K) with ⟨q, xs, rfl, hq, hxs, rfl, u, hty, hkit⟩ | ⟨rfl, u, hty, hkit⟩
        case inr => exact ⟨_, t2, _, u, _, _, rfl, et, .cons (.ty "tuple") (.cons (.ty "list") .nil), hty, hkit, false, rfl, iteT (kq G2 (s1.trans sm2))⟩
        refine ⟨_, t2, _, u, _, _, rfl, et, .cons (.ty "tuple") (.cons (.ty "list") .nil), hty, hkit, true, rfl, iteF ⟨_, rfl, q, xs, rfl, hq.sq, rfl, _, rfl, ?_⟩⟩
        by_cases c3 : xs.length = 3
        case neg =>
          rw [show (!decide (V.int ((xs.length : Nat) : Int) = V.int 3)) = true from by
            have : ¬ (V.int ((xs.length : Nat) : Int) = V.int 3) := fun z => c3 (by injection z with z; omega)
            simp [this]]
          rw [triple_len c3] at kq
          exact iteT (kq G2 (s1.trans sm2))
        rw [show (!decide (V.int ((xs.length : Nat) : Int) = V.int 3)) = false from by rw [c3]; rfl]
        refine iteF (seq_read (a := q) (xs := xs) rfl (lc_E hq.sq (fun D i G => Same G2 G ∧ G D = some (.lst (((xs.take i).map isI).map V.bl))) (fun _ _ _ h => h.1) (fun D hD => ⟨same_new hD, by simp [upd_same]⟩) ?_ ?_))
        · rintro D j x Gj hD hxj ⟨sj, hDj⟩
          have ox := (hxs x (List.mem_of_getElem? hxj)).1
          refine ⟨rfl, yes_of ?_⟩
          refine ⟨_, rfl, x, rfl, ox.same sj, _, hDj, ?_, fun b o e => by rw [upd_ne (ne_of_none e hD)]; exact sj _ _ e, ?_⟩
          · rw [List.length_map, List.length_map, List.length_take, sizeLine_eq]; omega
          · rw [upd_same, List.take_succ, hxj, List.map_append, List.map_append]; rfl
        rintro D G3 hD ⟨s3, hD3⟩
        rw [List.take_length] at hD3
        have sm3 := sm2.trans s3
        refine ⟨D, xs.map isI, rfl, SqL.of hD3, _, rfl, ?_⟩
        rw [← triple_all c3]
        cases htr : tripleOf xs with
        | none =>
          rw [htr] at kq
          exact iteT (kq G3 (s1.trans sm3))
        | some abc =>
        obtain ⟨a, b, cc⟩ := abc
        rw [htr] at kq hr0
        cases triple_some htr
        have hqs : SqE K G3 q [.int a, .int b, .int cc] := (hq.same s3).sq
        have hw3 := s3 _ _ (s2 _ _ hw)
        have ht3 := s3 _ _ (s2 _ _ ht)
        clear hD3 et hty hkit hxs htr c3 st0 st1 hw ht
        have e1 : run (dT T Wt) (ns.length + i) (some (a, b, cc) :: L.drop (i + 1)) = (okD (dT T Wt) a b cc && run (cut (dT T Wt) a b ++ [(((ns.length + i : Nat) : Int), cc)]) (ns.length + i + 1) (L.drop (i + 1))) := rfl
        rw [e1] at kq hr0
        have kF : okD (dT T Wt) a b cc = false → ∀ G, Same G3 G → Q (.bl false) G := fun e G s => by
          have := kq G ((s1.trans sm3).trans s)
          rw [e, Bool.false_and] at this
          exact this
        refine iteF ⟨_, rfl, SqE.ix hqs (j := 0) rfl rfl ⟨_, rfl, SqE.ix hqs (j := 1) rfl rfl ⟨rfl, _, rfl, ?_⟩⟩⟩
        by_cases ab : a = b
        · rw [show decide (V.int a = V.int b) = true from by rw [ab]; simp]
          exact iteT (kF (by rw [ab]; exact okD_eq) G3 (Same.refl _))
        rw [show decide (V.int a = V.int b) = false from decide_eq_false fun z => ab (by injection z)]
        refine iteF ⟨_, rfl, SqE.ix hqs (j := 0) rfl rfl ⟨_, rfl, t, _, rfl, .inl (SqL.of ht3), rfl, flat_nodes T, _, rfl, ?_⟩⟩
        show if (!inV (.int a) (T.map nV)) = true then _ else _
        rw [inV_nodes]
        by_cases ha : a ∈ T.map fun (t : Nat) => (t : Int)
        case neg =>
          rw [decide_eq_false ha]
          exact iteT (kF (okD_nl (lookup_out ha)) G3 (Same.refl _))
        rw [decide_eq_true ha]
        refine iteF ⟨_, rfl, SqE.ix hqs (j := 1) rfl rfl ⟨_, rfl, t, _, rfl, .inl (SqL.of ht3), rfl, flat_nodes T, _, rfl, ?_⟩⟩
        show if (!inV (.int b) (T.map nV)) = true then _ else _
        rw [inV_nodes]
        by_cases hb : b ∈ T.map fun (t : Nat) => (t : Int)
        case neg =>
          rw [decide_eq_false hb]
          exact iteT (kF (okD_nr (lookup_out hb)) G3 (Same.refl _))
        rw [decide_eq_true hb]
        obtain ⟨xa, hxa, rfl⟩ := List.mem_map.mp ha
        obtain ⟨xb, hxb, rfl⟩ := List.mem_map.mp hb
        have wat : ∀ x, x ∈ T → (Wt.map V.int)[x]? = some (V.int (Wt.getD x 0)) := fun x hx => by
          have lt := hT.2 x hx
          rw [List.getElem?_map, List.getElem?_eq_getElem lt, List.getD_eq_getElem?_getD, List.getElem?_eq_getElem lt]; rfl
        refine iteF ⟨_, rfl, t, rfl, ⟨_, SqL.of ht3⟩, fun D2 nD2 => lc_nat ht3 nD2 (fun t => !decide ((t : Int) = (xa : Int)) && !decide ((t : Int) = (xb : Int))) nV (fun j y Gj hy hC => ⟨rfl, ?_⟩) (fun G4 s4 h4 => ?_)⟩
        · have hqs := hqs.same hC.1
          refine ⟨_, rfl, _, rfl, SqE.ix hqs (j := 0) rfl rfl ⟨_, rfl, SqE.ix hqs (j := 1) rfl rfl ⟨(by show 2 ≤ sizeLine; decide), fun tp ntp => ⟨tp, _, rfl, .inr (SqT.of upd_same), rfl, rfl, _, rfl, ?_⟩⟩⟩⟩
          show if (!inV (nV y) [.int (xa : Int), .int (xb : Int)]) = true then _ else _
          rw [in_two]
          have hC2 := Cmp.same hC (same_new (o := .tup [.int (xa : Int), .int (xb : Int)]) ntp)
          cases hf : (!decide ((y : Int) = (xa : Int)) && !decide ((y : Int) = (xb : Int))) with
          | true => exact iteT ⟨_, rfl, Cmp.take hC2 hy hf rfl nD2 t1000⟩
          | false => exact iteF (Cmp.skip hC2 hy hf)
        have h4 : G4 D2 = some (.lst ((cutT T (xa : Int) (xb : Int)).map nV)) := h4
        have hqs := hqs.same s4
        have hw4 := s4 _ _ hw3
        have sm4 := sm3.trans s4
        have c1000 : (cutT T (xa : Int) (xb : Int)).length < 1000 := Nat.lt_of_le_of_lt (List.length_filter_le _ _) t1000
        have cmem : ∀ y, y ∈ cutT T (xa : Int) (xb : Int) → y ∈ T := fun y hy => (List.mem_filter.mp hy).1
        have hnx := hT.next xa xb cc
        have hstep := step_dT (T := T) (W := Wt) hT.2 (xa : Int) (xb : Int) cc
        refine ⟨_, rfl, _, rfl, SqE.ix hqs (j := 0) rfl rfl ⟨w, _, _, _, rfl, rfl, SqL.of hw4, at_of rfl (wat xa hxa), _, rfl, _, rfl, SqE.ix hqs (j := 1) rfl rfl ⟨w, _, _, _, rfl, rfl, SqL.of hw4, at_of rfl (wat xb hxb), _, _, rfl, ?_⟩⟩⟩
        have mx : (if Wt.getD xb 0 > Wt.getD xa 0 then Wt.getD xb 0 else Wt.getD xa 0) = max (Wt.getD xa 0) (Wt.getD xb 0) := by omega
        rw [mx]
        refine ⟨_, rfl, D2, rfl, ⟨_, SqL.of h4⟩, fun D3 nD3 => lc_nat h4 nD3 (fun _ => true) (fun t => .bl (decide (Wt.getD t 0 < max (Wt.getD xa 0) (Wt.getD xb 0)))) (fun j y Gj hy hC => ⟨rfl, yes_of ⟨_, rfl, _, rfl, w, _, _, _, rfl, rfl, SqL.of (hC.1 _ _ hw4), at_of rfl (wat y (cmem y (List.mem_of_getElem? hy))), _, rfl, _, _, rfl, rfl, Cmp.take hC hy rfl rfl nD3 c1000⟩⟩) (fun G5 s5 h5 => ?_)⟩
        rw [List.filter_eq_self.mpr (fun _ _ => rfl), show ((cutT T (xa : Int) (xb : Int)).map fun t => V.bl (decide (Wt.getD t 0 < max (Wt.getD xa 0) (Wt.getD xb 0)))) = ((cutT T (xa : Int) (xb : Int)).map fun t => decide (Wt.getD t 0 < max (Wt.getD xa 0) (Wt.getD xb 0))).map V.bl by rw [List.map_map]; rfl] at h5
        refine ⟨D3, _, rfl, SqL.of h5, _, rfl, ?_⟩
        have la := lookup_in (W := Wt) hxa
        have lb := lookup_in (W := Wt) hxb
        have hqs := hqs.same s5
        have hw5 := s5 _ _ hw4
        have sm5 := sm4.trans s5
        have hD5 := s5 _ _ h4
        have an : ∀ hcc : cc = Wt.getD xa 0 + Wt.getD xb 0, okD (dT T Wt) (xa : Int) (xb : Int) cc = !(((cutT T (xa : Int) (xb : Int)).map fun t => decide (Wt.getD t 0 < max (Wt.getD xa 0) (Wt.getD xb 0))).any id) := fun hcc => by
          rw [okD_yes la lb ab hcc, any_not, Bool.not_not, cut_dT]
        cases ea : ((cutT T (xa : Int) (xb : Int)).map fun t => decide (Wt.getD t 0 < max (Wt.getD xa 0) (Wt.getD xb 0))).any id with
        | true =>
          refine iteT (kF ?_ G5 (s4.trans s5))
          by_cases hcc : cc = Wt.getD xa 0 + Wt.getD xb 0
          · rw [an hcc, ea]; rfl
          · exact okD_ns la lb hcc
        | false =>
        refine iteF ⟨_, rfl, SqE.ix hqs (j := 2) rfl rfl ⟨_, rfl, _, rfl, SqE.ix hqs (j := 0) rfl rfl ⟨w, _, _, _, rfl, rfl, SqL.of hw5, at_of rfl (wat xa hxa), _, rfl, _, rfl, SqE.ix hqs (j := 1) rfl rfl ⟨w, _, _, _, rfl, rfl, SqL.of hw5, at_of rfl (wat xb hxb), _, _, rfl, rfl, rfl, _, rfl, ?_⟩⟩⟩⟩
        by_cases hcc : cc = Wt.getD xa 0 + Wt.getD xb 0
        case neg =>
          rw [show (!decide (V.int cc = V.int (Wt.getD xa 0 + Wt.getD xb 0))) = true from by rw [decide_eq_false (fun z => hcc (by injection z))]; rfl]
          exact iteT (kF (okD_ns la lb hcc) G5 (s4.trans s5))
        rw [show (!decide (V.int cc = V.int (Wt.getD xa 0 + Wt.getD xb 0))) = false from by rw [hcc]; simp]
        rw [an hcc, ea, ← hW, hstep] at hr0
        have D2w : D2 ≠ w := (ne_of_none hw3 nD2).symm
        refine iteF ⟨_, rfl, .inl ⟨rfl, _, SqL.of hD5⟩, _, rfl, w, _, rfl, .inl (SqL.of hw5), D2, _, _, rfl, rfl, hD5, by rw [List.length_map, sizeLine_eq]; omega, ?_⟩
        rw [List.length_map]
        have e2 : (cutT T (xa : Int) (xb : Int)).map nV ++ [V.int ((Wt.length : Nat) : Int)] = (cutT T (xa : Int) (xb : Int) ++ [Wt.length]).map nV := by rw [List.map_append]; rfl
        rw [e2]
        have f6 : ∀ b o, b ≠ D2 → G5 b = some o → upd G5 D2 (.lst ((cutT T (xa : Int) (xb : Int) ++ [Wt.length]).map nV)) b = some o := fun b o n e => by rw [upd_ne n]; exact e
        have h6 : upd G5 D2 (.lst ((cutT T (xa : Int) (xb : Int) ++ [Wt.length]).map nV)) D2 = _ := upd_same
        generalize upd G5 D2 (.lst ((cutT T (xa : Int) (xb : Int) ++ [Wt.length]).map nV)) = G6 at *
        have hw6 := f6 _ _ D2w.symm hw5
        have nD2' : ∀ b o, G3 b = some o → b ≠ D2 := fun b o e => ne_of_none e nD2
        have hq6 : SqH G6 q [.int (xa : Int), .int (xb : Int), .int cc] := by
          have hq5 := ((hq.same s3).same s4).same s5
          have hq3 := hq.same s3
          rcases hq3 with h0 | h0
          · exact .inl (f6 _ _ (nD2' _ _ h0) (s5 _ _ (s4 _ _ h0)))
          · exact .inr (f6 _ _ (nD2' _ _ h0) (s5 _ _ (s4 _ _ h0)))
        have hqs := hq6.sq (K := K)
        refine ⟨_, rfl, .inl ⟨rfl, _, SqL.of hw6⟩, _, rfl, SqE.ix hqs (j := 2) rfl rfl ⟨w, _, _, rfl, rfl, hw6, by rw [List.length_map, sizeLine_eq]; omega, ?_⟩⟩
        have e3 : Wt.map V.int ++ [V.int cc] = (Wt ++ [cc]).map V.int := by rw [List.map_append]; rfl
        rw [e3]
        have hlc : (cutT T (xa : Int) (xb : Int)).length ≤ T.length := List.length_filter_le _ _
        refine ⟨D2, _, Wt ++ [cc], ⟨_, _, _, _, rfl⟩, fun b o e => ?_, upd_same, by rw [upd_ne D2w]; exact h6, D2w, hnx, by rw [List.length_append, hW]; rfl, by rw [List.length_append]; show _ + 1 ≤ _; omega, ?_⟩
        · have nb : b ≠ w := ne_of_none e nw
          rw [upd_ne nb]
          have e3 := sm3 _ _ e
          exact f6 _ _ (nD2' _ _ e3) (s5 _ _ (s4 _ _ e3))
        · have e9 : ns.length + (i + 1) = Wt.length + 1 := by omega
          rw [e9, hr0, Bool.not_false, Bool.true_and]
      · rintro ρ G ⟨t, T, Wt, ⟨y4, y5, y6, y7, rfl⟩, sm, hw, ht, tw, hT, hW, hTl, hr0⟩
        have kq := kq G (s1.trans sm)
        rw [hr0, List.drop_eq_nil_of_le (by omega)] at kq
        exact kq
    · rw [show (!decide (V.int ((vs.length : Nat) : Int) = V.int ((ns.length : Int) - 1))) = true from by
        have : ¬ (V.int ((vs.length : Nat) : Int) = V.int ((ns.length : Int) - 1)) := fun z => cl (by injection z with z; omega)
        simp [this]]
      have e0 : jd ns (some L) = false := by
        show (decide (L.length = ns.length - 1) && run (d0 ns) ns.length L) = _
        rw [decide_eq_false (show ¬ L.length = ns.length - 1 by omega), Bool.false_and]
      rw [e0] at kq
      exact iteT (kq G1 s1)
end
end Z

set_option Elab.async false
set_option linter.all false
set_option maxRecDepth 100000
set_option maxHeartbeats 8000000
/-! steps with one thing otherwise -/
namespace Z
open PySem L2 XV KJ
def isAt : V → Bool
  | .non => true
  | .bl _ => true
  | .int _ => true
  | .str _ => true
  | _ => false
theorem odd_flat {G : Hp} {x : V} (h : isAt x = true) : Odd G x ∧ flat x := by
  cases x <;> first | (cases h; done) | exact ⟨by constructor, fun _ z => nomatch z⟩
theorem stp_tup {G : Hp} {p : Addr} {xs : List V} (h : G p = some (.tup xs)) (f : xs.all isAt = true) : ∃ o, Stp G (.ref p) o := ⟨_, .seq (.inr h) fun x hx => odd_flat (List.all_eq_true.mp f x hx)⟩
theorem stp_at {G : Hp} {x : V} (h : isAt x = true) : ∃ o, Stp G x o := ⟨_, .atom (odd_flat (G := G) h).1 (odd_flat (G := G) h).2⟩
theorem Stp.but {H G : Hp} {d : Addr} {v : V} {o : Option (Int × Int × Int)} (h : Stp H v o) (n : v ≠ .ref d) (b : But d H G) : Stp G v o := by
  cases h with
  | seq h hx =>
    have ne : ∀ {p : Addr}, V.ref p ≠ V.ref d → p ≠ d := fun n z => n (by rw [z])
    refine .seq (h.elim (fun e => .inl (b _ _ (ne n) e)) fun e => .inr (b _ _ (ne n) e)) fun x hx' => ⟨(hx x hx').1.upd (hx x hx').2, (hx x hx').2⟩
  | atom h f => exact .atom (h.upd f) f
  | dct h => exact .dct (b _ _ (fun z => n (by rw [z])) h)
theorem ex_same {H G : Hp} {v : V} (h : ∃ o, Stp H v o) (s : Same H G) : ∃ o, Stp G v o := let ⟨o, h⟩ := h; ⟨o, h.same s⟩
theorem stps_of {G : Hp} {p : Addr} {vs : List V} (h : SqH G p vs) (f : ∀ v ∈ vs, ∃ o, Stp G v o) : ∃ S, Stps G (.ref p) S := by
  have key : ∀ vs : List V, (∀ v ∈ vs, ∃ o, Stp G v o) → ∃ L : List (Option (Int × Int × Int)), L.length = vs.length ∧ ∀ (i : Nat) (v : V) (o : Option (Int × Int × Int)), vs[i]? = some v → L[i]? = some o → Stp G v o := by
    intro vs
    induction vs with
    | nil => exact fun _ => ⟨[], rfl, fun i v o h => nomatch h⟩
    | cons x xs ih =>
      intro f
      obtain ⟨L, hl, hx⟩ := ih fun v hv => f v (List.mem_cons_of_mem _ hv)
      obtain ⟨o, ho⟩ := f x (List.mem_cons_self ..)
      refine ⟨o :: L, by rw [List.length_cons, List.length_cons, hl], fun i v o' a b => ?_⟩
      cases i with
      | zero => cases a; cases b; exact ho
      | succ i => exact hx i v o' a b
  obtain ⟨L, hl, hx⟩ := key vs f
  exact ⟨some L, .seq h hl hx⟩
def spBent : Sp := fun vs H Q _ => ∃ (d l z : Addr) (k : Nat) (L : List (Int × Int × Int)), vs = [.ref d, .ref z] ∧ Pen H d l k ∧ Steps H z L ∧ 1 ≤ L.length ∧ L.length ≤ 25 ∧ k ≤ 900000 ∧
  ∀ (v : V) (S : Option (List (Option (Int × Int × Int)))) (G : Hp) (k' : Nat), Stps G v S → k' ≤ k + 3 → Pen G d l k' → But d H G → Q v G
section
variable {P : Program} {w : World} {K : PySem.W.Frag} {mg : Str → Option Value} {base : Heap} {A : Ad}
theorem sc_bent : FnScope ["_law_pen", "_law_steps", "_law_way", "_law_at", "_law_step", "_law_odd"] ["_law_pen", "_law_steps"] (defScope s_bent) := ⟨rfl, rfl, rfl, by decide +kernel, rfl, by decide +kernel, by decide +kernel⟩
theorem ok_bent (T : Txt K mg A) : FnOk P w K mg base CX0 3 A.a_bent A.d_bent ["_law_pen", "_law_steps"] spBent := by
  have G_draw := ok_draw (P := P) (w := w) (base := base) T
  have G_pick := ok_pick (P := P) (w := w) (base := base) T
  refine T.F_bent.ok sc_bent (fun vs H Q E h => ?_) (fun cdv Ar outer s H vs Q E hr h => ?_)
  · obtain ⟨d, l, z, k, L, rfl, _⟩ := h; rfl
  · obtain ⟨d, l, z, k, L, rfl, pen, hS, l1, l25, hk, kq⟩ := h
    obtain ⟨qs, hz, hql, hqt⟩ := hS
    refine ⟨_, (pss_cons (ps_par (i := 2) (j := 3) (by rfl) sc_bent.nd rfl rfl (by decide) rfl rfl (pa_cons (pe_call G_draw (hr.mono (by decide)) (by rfl) T.g_draw T.F_draw.kp T.b_draw .nil pass0 (pa_cons (pv 0) (pa_cons pe_int pa_nil))) (pa_cons (pe_call G_draw (hr.mono (by decide)) (by rfl) T.g_draw T.F_draw.kp T.b_draw .nil pass0 (pa_cons (pv 0) (pa_cons (pe_callB call_len_seq (by rfl) T.z_len PySem.boot_len (pa_cons (pv 1) pa_nil)) pa_nil))) pa_nil)) (by rfl))
      (pss_cons (ps_set (i := 4) sc_bent.nd rfl (Or.inl rfl) (pe_ix ix_list (pv 1) (pv 3) (fun _ _ => rfl)))
      (pss_cons (ps_if (pt_cmpR op_eq (pv 2) pe_int (nomark _)) (pss_one (ps_ret (pe_op op_cat (pe_op op_cat (pe_slice sl_list (pv 1) po_none (po_some (pv 3))) (pe_lst (pa_cons (pe_tup (pa_cons (pe_ix ix_tup (pv 4) pe_int (fun _ _ => rfl)) (pa_cons (pe_ix ix_tup (pv 4) pe_int (fun _ _ => rfl)) (pa_cons (pe_op op_add (pe_ix ix_tup (pv 4) pe_int (fun _ _ => rfl)) (pe_call G_pick (hr.mono (by decide)) (by rfl) T.g_pick T.F_pick.kp T.b_pick .nil pass0 (pa_cons (pv 0) (pa_cons (pe_lst (pa_cons pe_int (pa_cons (pe_un un_neg pe_int) (pa_cons (pe_op op_pow pe_int pe_int) pa_nil)))) pa_nil)))) pa_nil)))) pa_nil))) (pe_slice sl_list (pv 1) (po_some (pe_op op_add (pv 3) pe_int)) po_none))))
        pss_nil)
      (pss_cons (ps_if (pt_cmpR op_eq (pv 2) pe_int (nomark _)) (pss_one (ps_ret (pe_op op_cat (pe_op op_cat (pe_slice sl_list (pv 1) po_none (po_some (pv 3))) (pe_lst (pa_cons (pe_tup (pa_cons (pe_call G_draw (hr.mono (by decide)) (by rfl) T.g_draw T.F_draw.kp T.b_draw .nil pass0 (pa_cons (pv 0) (pa_cons (pe_op op_add (pe_op op_mul pe_int (pe_callB call_len_seq (by rfl) T.z_len PySem.boot_len (pa_cons (pv 1) pa_nil))) pe_int) pa_nil))) (pa_cons (pe_ix ix_tup (pv 4) pe_int (fun _ _ => rfl)) (pa_cons (pe_ix ix_tup (pv 4) pe_int (fun _ _ => rfl)) pa_nil)))) pa_nil))) (pe_slice sl_list (pv 1) (po_some (pe_op op_add (pv 3) pe_int)) po_none))))
        pss_nil)
      (pss_cons (ps_if (pt_cmpR op_eq (pv 2) pe_int (nomark _)) (pss_one (ps_ret (pe_op op_cat (pe_slice sl_list (pv 1) po_none (po_some (pv 3))) (pe_slice sl_list (pv 1) (po_some (pe_op op_add (pv 3) pe_int)) po_none))))
        pss_nil)
      (pss_cons (ps_if (pt_cmpR op_eq (pv 2) pe_int (nomark _)) (pss_one (ps_ret (pe_op op_cat (pe_op op_cat (pe_slice sl_list (pv 1) po_none (po_some (pv 3))) (pe_lst (pa_cons (pv 4) pa_nil))) (pe_slice sl_list (pv 1) (po_some (pv 3)) po_none))))
        pss_nil)
      (pss_cons (ps_if (pt_cmpR op_eq (pv 2) pe_int (nomark _)) (pss_one (ps_ret (pe_op op_cat (pe_op op_cat (pe_slice sl_list (pv 1) po_none (po_some (pv 3))) (pe_revL (pe_slice sl_list (pv 1) (po_some (pv 3)) (po_some (pe_op op_add (pv 3) pe_int))))) (pe_slice sl_list (pv 1) (po_some (pe_op op_add (pv 3) pe_int)) po_none))))
        pss_nil)
      (pss_cons (ps_if (pt_cmpR op_eq (pv 2) pe_int (nomark _)) (pss_cons (ps_set (i := 5) sc_bent.nd rfl (Or.inl rfl) (pe_lst (pa_cons pe_non (pa_cons pe_int (pa_cons pe_str (pa_cons (pe_tup pa_nil) (pa_cons (pe_slice sl_tup (pv 4) po_none (po_some pe_int)) (pa_cons (pe_op op_catA (pv 4) (pe_tup (pa_cons pe_int pa_nil))) (pa_cons (pe_tup (pa_cons pe_non (pa_cons (pe_ix ix_tup (pv 4) pe_int (fun _ _ => rfl)) (pa_cons (pe_ix ix_tup (pv 4) pe_int (fun _ _ => rfl)) pa_nil)))) (pa_cons (pe_tup (pa_cons (pe_ix ix_tup (pv 4) pe_int (fun _ _ => rfl)) (pa_cons (pe_ix ix_tup (pv 4) pe_int (fun _ _ => rfl)) (pa_cons pe_str pa_nil)))) pa_nil))))))))))
       (pss_cons (ps_set (i := 5) sc_bent.nd rfl (Or.inl rfl) (pe_op op_cat (pv 5) (pe_lst (pa_cons (pe_tup (pa_cons (pe_ix ix_tup (pv 4) pe_int (fun _ _ => rfl)) (pa_cons pe_bl (pa_cons (pe_ix ix_tup (pv 4) pe_int (fun _ _ => rfl)) pa_nil)))) (pa_cons (pe_tup (pa_cons pe_bl (pa_cons (pe_ix ix_tup (pv 4) pe_int (fun _ _ => rfl)) (pa_cons (pe_ix ix_tup (pv 4) pe_int (fun _ _ => rfl)) pa_nil)))) (pa_cons (pe_tup (pa_cons (pe_un un_neg pe_int) (pa_cons (pe_ix ix_tup (pv 4) pe_int (fun _ _ => rfl)) (pa_cons (pe_ix ix_tup (pv 4) pe_int (fun _ _ => rfl)) pa_nil)))) (pa_cons pe_dnewK (pa_cons (pe_lst pa_nil) pa_nil))))))))
       (pss_one (ps_ret (pe_op op_cat (pe_op op_cat (pe_slice sl_list (pv 1) po_none (po_some (pv 3))) (pe_lst (pa_cons (pe_call G_pick (hr.mono (by decide)) (by rfl) T.g_pick T.F_pick.kp T.b_pick .nil pass0 (pa_cons (pv 0) (pa_cons (pv 5) pa_nil))) pa_nil))) (pe_slice sl_list (pv 1) (po_some (pe_op op_add (pv 3) pe_int)) po_none))))))
        pss_nil)
      (pss_cons (ps_if (pt_cmpR op_eq (pv 2) pe_int (nomark _)) (pss_one (ps_ret (pe_op op_cat (pe_op op_cat (pe_slice sl_list (pv 1) po_none (po_some (pv 3))) (pe_lst (pa_cons (pe_tup (pa_cons (pe_ix ix_tup (pv 4) pe_int (fun _ _ => rfl)) (pa_cons (pe_ix ix_tup (pv 4) pe_int (fun _ _ => rfl)) (pa_cons (pe_ix ix_tup (pv 4) pe_int (fun _ _ => rfl)) pa_nil)))) pa_nil))) (pe_slice sl_list (pv 1) (po_some (pe_op op_add (pv 3) pe_int)) po_none))))
        pss_nil)
      (pss_one (ps_ret (pv 1)))))))))))), ?_⟩
    have zd : z ≠ d := let ⟨x, e⟩ := pen.some; ne_of hz e (fun z => nomatch z)
    have fz : ∀ {G : Hp}, But d H G → G z = some (.lst (qs.map V.ref)) := fun b => b _ _ zd hz
    have ft : ∀ {G : Hp}, But d H G → ∀ v ∈ qs.map V.ref, ∃ o, Stp G v o := fun b v hv => by
      obtain ⟨q, hq, rfl⟩ := List.mem_map.mp hv
      obtain ⟨i, hi, e⟩ := List.getElem_of_mem hq
      have h1 := hqt i q L[i] (by rw [List.getElem?_eq_getElem hi, e]) (List.getElem?_eq_getElem (by omega))
      exact stp_tup (b _ _ (let ⟨x, e⟩ := pen.some; ne_of h1 e (fun z => nomatch z)) h1) rfl
    have lz : (qs.map V.ref).length = L.length := by rw [List.length_map, hql]
    have lcut : ∀ lo hi, (cutV (qs.map V.ref) lo hi).length ≤ 25 := fun lo hi => Nat.le_trans (cutV_length _ _ _) (by omega)
    have fcut : ∀ {G : Hp}, But d H G → ∀ lo hi, ∀ v ∈ cutV (qs.map V.ref) lo hi, ∃ o, Stp G v o := fun b lo hi v hv => ft b v (mem_cut hv)
    refine ⟨_, rfl, d, l, 9, k, rfl, pen, by decide, by decide, by omega, fun v1 G1 k1 v1a v1b hk1 pen1 bt1 => ?_⟩
    refine ⟨_, rfl, _, rfl, z, _, rfl, .inl (SqL.of (fz bt1)), d, l, _, k1, rfl, pen1, by omega, by omega, by omega, fun v2 G2 k2 v2a v2b hk2 pen2 bt2 => ?_⟩
    rw [lz] at v2b
    have b2 := bt1.trans bt2
    clear bt1 bt2 pen1
    obtain ⟨i, rfl⟩ : ∃ i : Nat, v2 = (i : Int) := ⟨v2.toNat, (Int.toNat_of_nonneg v2a).symm⟩
    have hi : i < qs.length := by omega
    obtain ⟨⟨sa, sb, sc⟩, hLi⟩ : ∃ o, L[i]? = some o := ⟨L[i], List.getElem?_eq_getElem (by omega)⟩
    have hs0 := hqt i qs[i] _ (List.getElem?_eq_getElem hi) hLi
    have get0 : (qs.map V.ref)[i]? = some (V.ref qs[i]) := by rw [List.getElem?_map, List.getElem?_eq_getElem hi]; rfl
    generalize qs[i] = s0 at *
    have sd : s0 ≠ d := let ⟨x, e⟩ := pen.some; ne_of hs0 e (fun z => nomatch z)
    have fs : ∀ {G : Hp}, But d H G → G s0 = some (.tup [.int sa, .int sb, .int sc]) := fun b => b _ _ sd hs0
    refine ⟨_, _, rfl, ?_⟩
    refine ⟨_, rfl, _, rfl, z, _, _, _, rfl, rfl, SqL.of (fz b2), at_of rfl get0, ?_⟩
    refine ⟨_, rfl, rfl, _, rfl, ite2 (fun _ => ?_) (fun _ => ?_)⟩
    · skip
      refine ⟨_, rfl, _, rfl, _, rfl, z, _, rfl, SqL.of (fz b2), fun q n_q => ?_⟩
      have s_q : Same G2 (upd G2 q (.lst (cutV (qs.map V.ref) none (some (i : Int))))) := same_new n_q
      have h_q : upd G2 q (.lst (cutV (qs.map V.ref) none (some (i : Int)))) q = some (.lst (cutV (qs.map V.ref) none (some (i : Int)))) := upd_same
      generalize upd G2 q (.lst (cutV (qs.map V.ref) none (some (i : Int)))) = G3 at *
      have b3 := b2.trans (But.of s_q)
      have pen3 := pen2.same s_q
      refine ⟨_, rfl, s0, _, _, _, rfl, rfl, SqT.of (fs b3), at_of rfl rfl, _, rfl, s0, _, _, _, rfl, rfl, SqT.of (fs b3), at_of rfl rfl, _, rfl, s0, _, _, _, rfl, rfl, SqT.of (fs b3), at_of rfl rfl, _, rfl, _, rfl, _, _, rfl, rfl, ⟨by decide, by decide, by decide⟩, (by show 3 ≤ sizeLine; decide), fun e n_e => ?_⟩
      have s_e : Same G3 (upd G3 e (.lst [V.int 1, V.int (-1), V.int ((10 : Int) ^ Int.toNat 30)])) := same_new n_e
      have h_e : upd G3 e (.lst [V.int 1, V.int (-1), V.int ((10 : Int) ^ Int.toNat 30)]) e = some (.lst [V.int 1, V.int (-1), V.int ((10 : Int) ^ Int.toNat 30)]) := upd_same
      generalize upd G3 e (.lst [V.int 1, V.int (-1), V.int ((10 : Int) ^ Int.toNat 30)]) = G4 at *
      have b4 := b3.trans (But.of s_e)
      have pen4 := pen3.same s_e
      refine ⟨d, l, e, _, k2, rfl, pen4, h_e, (by show 0 < 3; decide), (by show 3 < 1000; decide), by omega, fun v3 G5 k3 hv hk3 pen5 bt3 => ?_⟩
      obtain ⟨y3, rfl⟩ : ∃ y : Int, v3 = .int y := by
        simp only [List.mem_cons, List.not_mem_nil, or_false] at hv
        rcases hv with rfl | rfl | rfl <;> exact ⟨_, rfl⟩
      have b5 := b4.trans bt3
      have qd : q ≠ d := let ⟨x, e⟩ := pen4.some; ne_of (s_e _ _ h_q) e (fun z => nomatch z)
      have h_q := bt3 _ _ qd (s_e _ _ h_q)
      refine ⟨_, _, rfl, rfl, (by show 3 ≤ sizeLine; decide), fun t n_t => ?_⟩
      have s_t : Same G5 (upd G5 t (.tup [V.int sa, V.int sb, V.int (sc + y3)])) := same_new n_t
      have h_t : upd G5 t (.tup [V.int sa, V.int sb, V.int (sc + y3)]) t = some (.tup [V.int sa, V.int sb, V.int (sc + y3)]) := upd_same
      generalize upd G5 t (.tup [V.int sa, V.int sb, V.int (sc + y3)]) = G6 at *
      have b6 := b5.trans (But.of s_t)
      have pen6 := pen5.same s_t
      refine ⟨(by show 1 ≤ sizeLine; decide), fun m n_m => ?_⟩
      have hxs : ∃ o, Stp G6 (V.ref t) o := stp_tup h_t rfl
      have s_m : Same G6 (upd G6 m (.lst [V.ref t])) := same_new n_m
      have h_m : upd G6 m (.lst [V.ref t]) m = some (.lst [V.ref t]) := upd_same
      generalize upd G6 m (.lst [V.ref t]) = G7 at *
      have b7 := b6.trans (But.of s_m)
      have pen7 := pen6.same s_m
      have hxs := ex_same hxs s_m
      refine ⟨_, _, _, _, rfl, rfl, (s_m _ _ (s_t _ _ h_q)), h_m, by (try simp only [List.length_append, List.length_cons, List.length_nil, List.length_reverse]); have l0 := lcut none (some (i : Int)); rw [sizeLine_eq]; omega, fun r n_r => ?_⟩
      have s_r : Same G7 (upd G7 r (.lst ((cutV (qs.map V.ref) none (some (i : Int))) ++ [V.ref t]))) := same_new n_r
      have h_r : upd G7 r (.lst ((cutV (qs.map V.ref) none (some (i : Int))) ++ [V.ref t])) r = some (.lst ((cutV (qs.map V.ref) none (some (i : Int))) ++ [V.ref t])) := upd_same
      generalize upd G7 r (.lst ((cutV (qs.map V.ref) none (some (i : Int))) ++ [V.ref t])) = G8 at *
      have b8 := b7.trans (But.of s_r)
      have pen8 := pen7.same s_r
      have hxs := ex_same hxs s_r
      refine ⟨_, rfl, _, rfl, _, _, rfl, rfl, _, rfl, z, _, rfl, SqL.of (fz b8), fun u n_u => ?_⟩
      have s_u : Same G8 (upd G8 u (.lst (cutV (qs.map V.ref) (some ((i : Int) + 1)) none))) := same_new n_u
      have h_u : upd G8 u (.lst (cutV (qs.map V.ref) (some ((i : Int) + 1)) none)) u = some (.lst (cutV (qs.map V.ref) (some ((i : Int) + 1)) none)) := upd_same
      generalize upd G8 u (.lst (cutV (qs.map V.ref) (some ((i : Int) + 1)) none)) = G9 at *
      have b9 := b8.trans (But.of s_u)
      have pen9 := pen8.same s_u
      have hxs := ex_same hxs s_u
      refine ⟨_, _, _, _, rfl, rfl, (s_u _ _ h_r), h_u, by (try simp only [List.length_append, List.length_cons, List.length_nil, List.length_reverse]); have l0 := lcut none (some (i : Int)); have l1 := lcut (some ((i : Int) + 1)) none; rw [sizeLine_eq]; omega, fun y n_y => ?_⟩
      have s_y : Same G9 (upd G9 y (.lst ((cutV (qs.map V.ref) none (some (i : Int))) ++ [V.ref t] ++ (cutV (qs.map V.ref) (some ((i : Int) + 1)) none)))) := same_new n_y
      have h_y : upd G9 y (.lst ((cutV (qs.map V.ref) none (some (i : Int))) ++ [V.ref t] ++ (cutV (qs.map V.ref) (some ((i : Int) + 1)) none))) y = some (.lst ((cutV (qs.map V.ref) none (some (i : Int))) ++ [V.ref t] ++ (cutV (qs.map V.ref) (some ((i : Int) + 1)) none))) := upd_same
      generalize upd G9 y (.lst ((cutV (qs.map V.ref) none (some (i : Int))) ++ [V.ref t] ++ (cutV (qs.map V.ref) (some ((i : Int) + 1)) none))) = G10 at *
      have b10 := b9.trans (But.of s_y)
      have pen10 := pen9.same s_y
      have hxs := ex_same hxs s_y
      obtain ⟨S, hS⟩ := stps_of (.inl h_y) (fun v hv => by
        rw [List.append_assoc, List.mem_append, List.mem_append] at hv
        rcases hv with hv | hv | hv
        · exact fcut b10 _ _ v hv
        · simp only [List.mem_cons, List.not_mem_nil, or_false] at hv; subst hv; exact hxs
        · exact fcut b10 _ _ v hv)
      exact kq _ S _ k3 hS (by omega) pen10 b10
    refine ⟨_, rfl, rfl, _, rfl, ite2 (fun _ => ?_) (fun _ => ?_)⟩
    · skip
      refine ⟨_, rfl, _, rfl, _, rfl, z, _, rfl, SqL.of (fz b2), fun q n_q => ?_⟩
      have s_q : Same G2 (upd G2 q (.lst (cutV (qs.map V.ref) none (some (i : Int))))) := same_new n_q
      have h_q : upd G2 q (.lst (cutV (qs.map V.ref) none (some (i : Int)))) q = some (.lst (cutV (qs.map V.ref) none (some (i : Int)))) := upd_same
      generalize upd G2 q (.lst (cutV (qs.map V.ref) none (some (i : Int)))) = G3 at *
      have b3 := b2.trans (But.of s_q)
      have pen3 := pen2.same s_q
      refine ⟨_, rfl, _, rfl, z, _, rfl, .inl (SqL.of (fz b3)), _, _, rfl, rfl, mul_l (by decide) (by decide), _, _, rfl, rfl, d, l, _, k2, rfl, pen3, by omega, by omega, by omega, fun v3 G4 k3 v3a v3b hk3 pen4 bt3 => ?_⟩
      have b4 := b3.trans bt3
      have qd : q ≠ d := let ⟨x, e⟩ := pen3.some; ne_of h_q e (fun z => nomatch z)
      have h_q := bt3 _ _ qd h_q
      refine ⟨_, rfl, s0, _, _, _, rfl, rfl, SqT.of (fs b4), at_of rfl rfl, _, rfl, s0, _, _, _, rfl, rfl, SqT.of (fs b4), at_of rfl rfl, (by show 3 ≤ sizeLine; decide), fun t n_t => ?_⟩
      have s_t : Same G4 (upd G4 t (.tup [V.int v3, V.int sb, V.int sc])) := same_new n_t
      have h_t : upd G4 t (.tup [V.int v3, V.int sb, V.int sc]) t = some (.tup [V.int v3, V.int sb, V.int sc]) := upd_same
      generalize upd G4 t (.tup [V.int v3, V.int sb, V.int sc]) = G5 at *
      have b5 := b4.trans (But.of s_t)
      have pen5 := pen4.same s_t
      refine ⟨(by show 1 ≤ sizeLine; decide), fun m n_m => ?_⟩
      have hxs : ∃ o, Stp G5 (V.ref t) o := stp_tup h_t rfl
      have s_m : Same G5 (upd G5 m (.lst [V.ref t])) := same_new n_m
      have h_m : upd G5 m (.lst [V.ref t]) m = some (.lst [V.ref t]) := upd_same
      generalize upd G5 m (.lst [V.ref t]) = G6 at *
      have b6 := b5.trans (But.of s_m)
      have pen6 := pen5.same s_m
      have hxs := ex_same hxs s_m
      refine ⟨_, _, _, _, rfl, rfl, (s_m _ _ (s_t _ _ h_q)), h_m, by (try simp only [List.length_append, List.length_cons, List.length_nil, List.length_reverse]); have l0 := lcut none (some (i : Int)); rw [sizeLine_eq]; omega, fun r n_r => ?_⟩
      have s_r : Same G6 (upd G6 r (.lst ((cutV (qs.map V.ref) none (some (i : Int))) ++ [V.ref t]))) := same_new n_r
      have h_r : upd G6 r (.lst ((cutV (qs.map V.ref) none (some (i : Int))) ++ [V.ref t])) r = some (.lst ((cutV (qs.map V.ref) none (some (i : Int))) ++ [V.ref t])) := upd_same
      generalize upd G6 r (.lst ((cutV (qs.map V.ref) none (some (i : Int))) ++ [V.ref t])) = G7 at *
      have b7 := b6.trans (But.of s_r)
      have pen7 := pen6.same s_r
      have hxs := ex_same hxs s_r
      refine ⟨_, rfl, _, rfl, _, _, rfl, rfl, _, rfl, z, _, rfl, SqL.of (fz b7), fun u n_u => ?_⟩
      have s_u : Same G7 (upd G7 u (.lst (cutV (qs.map V.ref) (some ((i : Int) + 1)) none))) := same_new n_u
      have h_u : upd G7 u (.lst (cutV (qs.map V.ref) (some ((i : Int) + 1)) none)) u = some (.lst (cutV (qs.map V.ref) (some ((i : Int) + 1)) none)) := upd_same
      generalize upd G7 u (.lst (cutV (qs.map V.ref) (some ((i : Int) + 1)) none)) = G8 at *
      have b8 := b7.trans (But.of s_u)
      have pen8 := pen7.same s_u
      have hxs := ex_same hxs s_u
      refine ⟨_, _, _, _, rfl, rfl, (s_u _ _ h_r), h_u, by (try simp only [List.length_append, List.length_cons, List.length_nil, List.length_reverse]); have l0 := lcut none (some (i : Int)); have l1 := lcut (some ((i : Int) + 1)) none; rw [sizeLine_eq]; omega, fun y n_y => ?_⟩
      have s_y : Same G8 (upd G8 y (.lst ((cutV (qs.map V.ref) none (some (i : Int))) ++ [V.ref t] ++ (cutV (qs.map V.ref) (some ((i : Int) + 1)) none)))) := same_new n_y
      have h_y : upd G8 y (.lst ((cutV (qs.map V.ref) none (some (i : Int))) ++ [V.ref t] ++ (cutV (qs.map V.ref) (some ((i : Int) + 1)) none))) y = some (.lst ((cutV (qs.map V.ref) none (some (i : Int))) ++ [V.ref t] ++ (cutV (qs.map V.ref) (some ((i : Int) + 1)) none))) := upd_same
      generalize upd G8 y (.lst ((cutV (qs.map V.ref) none (some (i : Int))) ++ [V.ref t] ++ (cutV (qs.map V.ref) (some ((i : Int) + 1)) none))) = G9 at *
      have b9 := b8.trans (But.of s_y)
      have pen9 := pen8.same s_y
      have hxs := ex_same hxs s_y
      obtain ⟨S, hS⟩ := stps_of (.inl h_y) (fun v hv => by
        rw [List.append_assoc, List.mem_append, List.mem_append] at hv
        rcases hv with hv | hv | hv
        · exact fcut b9 _ _ v hv
        · simp only [List.mem_cons, List.not_mem_nil, or_false] at hv; subst hv; exact hxs
        · exact fcut b9 _ _ v hv)
      exact kq _ S _ k3 hS (by omega) pen9 b9
    refine ⟨_, rfl, rfl, _, rfl, ite2 (fun _ => ?_) (fun _ => ?_)⟩
    · skip
      refine ⟨_, rfl, _, rfl, _, rfl, z, _, rfl, SqL.of (fz b2), fun q n_q => ?_⟩
      have s_q : Same G2 (upd G2 q (.lst (cutV (qs.map V.ref) none (some (i : Int))))) := same_new n_q
      have h_q : upd G2 q (.lst (cutV (qs.map V.ref) none (some (i : Int)))) q = some (.lst (cutV (qs.map V.ref) none (some (i : Int)))) := upd_same
      generalize upd G2 q (.lst (cutV (qs.map V.ref) none (some (i : Int)))) = G3 at *
      have b3 := b2.trans (But.of s_q)
      have pen3 := pen2.same s_q
      refine ⟨_, rfl, _, rfl, _, _, rfl, rfl, _, rfl, z, _, rfl, SqL.of (fz b3), fun u n_u => ?_⟩
      have s_u : Same G3 (upd G3 u (.lst (cutV (qs.map V.ref) (some ((i : Int) + 1)) none))) := same_new n_u
      have h_u : upd G3 u (.lst (cutV (qs.map V.ref) (some ((i : Int) + 1)) none)) u = some (.lst (cutV (qs.map V.ref) (some ((i : Int) + 1)) none)) := upd_same
      generalize upd G3 u (.lst (cutV (qs.map V.ref) (some ((i : Int) + 1)) none)) = G4 at *
      have b4 := b3.trans (But.of s_u)
      have pen4 := pen3.same s_u
      refine ⟨_, _, _, _, rfl, rfl, (s_u _ _ h_q), h_u, by (try simp only [List.length_append, List.length_cons, List.length_nil, List.length_reverse]); have l0 := lcut none (some (i : Int)); have l1 := lcut (some ((i : Int) + 1)) none; rw [sizeLine_eq]; omega, fun y n_y => ?_⟩
      have s_y : Same G4 (upd G4 y (.lst ((cutV (qs.map V.ref) none (some (i : Int))) ++ (cutV (qs.map V.ref) (some ((i : Int) + 1)) none)))) := same_new n_y
      have h_y : upd G4 y (.lst ((cutV (qs.map V.ref) none (some (i : Int))) ++ (cutV (qs.map V.ref) (some ((i : Int) + 1)) none))) y = some (.lst ((cutV (qs.map V.ref) none (some (i : Int))) ++ (cutV (qs.map V.ref) (some ((i : Int) + 1)) none))) := upd_same
      generalize upd G4 y (.lst ((cutV (qs.map V.ref) none (some (i : Int))) ++ (cutV (qs.map V.ref) (some ((i : Int) + 1)) none))) = G5 at *
      have b5 := b4.trans (But.of s_y)
      have pen5 := pen4.same s_y
      obtain ⟨S, hS⟩ := stps_of (.inl h_y) (fun v hv => (List.mem_append.mp hv).elim (fun h => fcut b5 _ _ v h) fun h => fcut b5 _ _ v h)
      exact kq _ S _ k2 hS (by omega) pen5 b5
    refine ⟨_, rfl, rfl, _, rfl, ite2 (fun _ => ?_) (fun _ => ?_)⟩
    · skip
      refine ⟨_, rfl, _, rfl, _, rfl, z, _, rfl, SqL.of (fz b2), fun q n_q => ?_⟩
      have s_q : Same G2 (upd G2 q (.lst (cutV (qs.map V.ref) none (some (i : Int))))) := same_new n_q
      have h_q : upd G2 q (.lst (cutV (qs.map V.ref) none (some (i : Int)))) q = some (.lst (cutV (qs.map V.ref) none (some (i : Int)))) := upd_same
      generalize upd G2 q (.lst (cutV (qs.map V.ref) none (some (i : Int)))) = G3 at *
      have b3 := b2.trans (But.of s_q)
      have pen3 := pen2.same s_q
      refine ⟨_, rfl, ?_⟩
      refine ⟨(by show 1 ≤ sizeLine; decide), fun m n_m => ?_⟩
      have hxs : ∃ o, Stp G3 (V.ref s0) o := stp_tup (fs b3) rfl
      have s_m : Same G3 (upd G3 m (.lst [V.ref s0])) := same_new n_m
      have h_m : upd G3 m (.lst [V.ref s0]) m = some (.lst [V.ref s0]) := upd_same
      generalize upd G3 m (.lst [V.ref s0]) = G4 at *
      have b4 := b3.trans (But.of s_m)
      have pen4 := pen3.same s_m
      have hxs := ex_same hxs s_m
      refine ⟨_, _, _, _, rfl, rfl, (s_m _ _ h_q), h_m, by (try simp only [List.length_append, List.length_cons, List.length_nil, List.length_reverse]); have l0 := lcut none (some (i : Int)); rw [sizeLine_eq]; omega, fun r n_r => ?_⟩
      have s_r : Same G4 (upd G4 r (.lst ((cutV (qs.map V.ref) none (some (i : Int))) ++ [V.ref s0]))) := same_new n_r
      have h_r : upd G4 r (.lst ((cutV (qs.map V.ref) none (some (i : Int))) ++ [V.ref s0])) r = some (.lst ((cutV (qs.map V.ref) none (some (i : Int))) ++ [V.ref s0])) := upd_same
      generalize upd G4 r (.lst ((cutV (qs.map V.ref) none (some (i : Int))) ++ [V.ref s0])) = G5 at *
      have b5 := b4.trans (But.of s_r)
      have pen5 := pen4.same s_r
      have hxs := ex_same hxs s_r
      refine ⟨_, rfl, _, rfl, _, rfl, z, _, rfl, SqL.of (fz b5), fun u n_u => ?_⟩
      have s_u : Same G5 (upd G5 u (.lst (cutV (qs.map V.ref) (some (i : Int)) none))) := same_new n_u
      have h_u : upd G5 u (.lst (cutV (qs.map V.ref) (some (i : Int)) none)) u = some (.lst (cutV (qs.map V.ref) (some (i : Int)) none)) := upd_same
      generalize upd G5 u (.lst (cutV (qs.map V.ref) (some (i : Int)) none)) = G6 at *
      have b6 := b5.trans (But.of s_u)
      have pen6 := pen5.same s_u
      have hxs := ex_same hxs s_u
      refine ⟨_, _, _, _, rfl, rfl, (s_u _ _ h_r), h_u, by (try simp only [List.length_append, List.length_cons, List.length_nil, List.length_reverse]); have l0 := lcut none (some (i : Int)); have l1 := lcut (some (i : Int)) none; rw [sizeLine_eq]; omega, fun y n_y => ?_⟩
      have s_y : Same G6 (upd G6 y (.lst ((cutV (qs.map V.ref) none (some (i : Int))) ++ [V.ref s0] ++ (cutV (qs.map V.ref) (some (i : Int)) none)))) := same_new n_y
      have h_y : upd G6 y (.lst ((cutV (qs.map V.ref) none (some (i : Int))) ++ [V.ref s0] ++ (cutV (qs.map V.ref) (some (i : Int)) none))) y = some (.lst ((cutV (qs.map V.ref) none (some (i : Int))) ++ [V.ref s0] ++ (cutV (qs.map V.ref) (some (i : Int)) none))) := upd_same
      generalize upd G6 y (.lst ((cutV (qs.map V.ref) none (some (i : Int))) ++ [V.ref s0] ++ (cutV (qs.map V.ref) (some (i : Int)) none))) = G7 at *
      have b7 := b6.trans (But.of s_y)
      have pen7 := pen6.same s_y
      have hxs := ex_same hxs s_y
      obtain ⟨S, hS⟩ := stps_of (.inl h_y) (fun v hv => by
        rw [List.append_assoc, List.mem_append, List.mem_append] at hv
        rcases hv with hv | hv | hv
        · exact fcut b7 _ _ v hv
        · simp only [List.mem_cons, List.not_mem_nil, or_false] at hv; subst hv; exact hxs
        · exact fcut b7 _ _ v hv)
      exact kq _ S _ k2 hS (by omega) pen7 b7
    refine ⟨_, rfl, rfl, _, rfl, ite2 (fun _ => ?_) (fun _ => ?_)⟩
    · skip
      refine ⟨_, rfl, _, rfl, _, rfl, z, _, rfl, SqL.of (fz b2), fun q n_q => ?_⟩
      have s_q : Same G2 (upd G2 q (.lst (cutV (qs.map V.ref) none (some (i : Int))))) := same_new n_q
      have h_q : upd G2 q (.lst (cutV (qs.map V.ref) none (some (i : Int)))) q = some (.lst (cutV (qs.map V.ref) none (some (i : Int)))) := upd_same
      generalize upd G2 q (.lst (cutV (qs.map V.ref) none (some (i : Int)))) = G3 at *
      have b3 := b2.trans (But.of s_q)
      have pen3 := pen2.same s_q
      refine ⟨_, rfl, _, rfl, _, rfl, _, rfl, _, _, rfl, rfl, _, rfl, z, _, rfl, SqL.of (fz b3), fun e n_e => ?_⟩
      have s_e : Same G3 (upd G3 e (.lst (cutV (qs.map V.ref) (some (i : Int)) (some ((i : Int) + 2))))) := same_new n_e
      have h_e : upd G3 e (.lst (cutV (qs.map V.ref) (some (i : Int)) (some ((i : Int) + 2)))) e = some (.lst (cutV (qs.map V.ref) (some (i : Int)) (some ((i : Int) + 2)))) := upd_same
      generalize upd G3 e (.lst (cutV (qs.map V.ref) (some (i : Int)) (some ((i : Int) + 2)))) = G4 at *
      have b4 := b3.trans (But.of s_e)
      have pen4 := pen3.same s_e
      refine ⟨_, _, rfl, SqL.of h_e, fun f n_f => ?_⟩
      have s_f : Same G4 (upd G4 f (.lst (cutV (qs.map V.ref) (some (i : Int)) (some ((i : Int) + 2))).reverse)) := same_new n_f
      have h_f : upd G4 f (.lst (cutV (qs.map V.ref) (some (i : Int)) (some ((i : Int) + 2))).reverse) f = some (.lst (cutV (qs.map V.ref) (some (i : Int)) (some ((i : Int) + 2))).reverse) := upd_same
      generalize upd G4 f (.lst (cutV (qs.map V.ref) (some (i : Int)) (some ((i : Int) + 2))).reverse) = G5 at *
      have b5 := b4.trans (But.of s_f)
      have pen5 := pen4.same s_f
      refine ⟨_, _, _, _, rfl, rfl, (s_f _ _ (s_e _ _ h_q)), h_f, by (try simp only [List.length_append, List.length_cons, List.length_nil, List.length_reverse]); have l0 := lcut none (some (i : Int)); have l1 := lcut (some (i : Int)) (some ((i : Int) + 2)); rw [sizeLine_eq]; omega, fun r n_r => ?_⟩
      have s_r : Same G5 (upd G5 r (.lst ((cutV (qs.map V.ref) none (some (i : Int))) ++ (cutV (qs.map V.ref) (some (i : Int)) (some ((i : Int) + 2))).reverse))) := same_new n_r
      have h_r : upd G5 r (.lst ((cutV (qs.map V.ref) none (some (i : Int))) ++ (cutV (qs.map V.ref) (some (i : Int)) (some ((i : Int) + 2))).reverse)) r = some (.lst ((cutV (qs.map V.ref) none (some (i : Int))) ++ (cutV (qs.map V.ref) (some (i : Int)) (some ((i : Int) + 2))).reverse)) := upd_same
      generalize upd G5 r (.lst ((cutV (qs.map V.ref) none (some (i : Int))) ++ (cutV (qs.map V.ref) (some (i : Int)) (some ((i : Int) + 2))).reverse)) = G6 at *
      have b6 := b5.trans (But.of s_r)
      have pen6 := pen5.same s_r
      refine ⟨_, rfl, _, rfl, _, _, rfl, rfl, _, rfl, z, _, rfl, SqL.of (fz b6), fun u n_u => ?_⟩
      have s_u : Same G6 (upd G6 u (.lst (cutV (qs.map V.ref) (some ((i : Int) + 2)) none))) := same_new n_u
      have h_u : upd G6 u (.lst (cutV (qs.map V.ref) (some ((i : Int) + 2)) none)) u = some (.lst (cutV (qs.map V.ref) (some ((i : Int) + 2)) none)) := upd_same
      generalize upd G6 u (.lst (cutV (qs.map V.ref) (some ((i : Int) + 2)) none)) = G7 at *
      have b7 := b6.trans (But.of s_u)
      have pen7 := pen6.same s_u
      refine ⟨_, _, _, _, rfl, rfl, (s_u _ _ h_r), h_u, by (try simp only [List.length_append, List.length_cons, List.length_nil, List.length_reverse]); have l0 := lcut none (some (i : Int)); have l1 := lcut (some (i : Int)) (some ((i : Int) + 2)); have l2 := lcut (some ((i : Int) + 2)) none; rw [sizeLine_eq]; omega, fun y n_y => ?_⟩
      have s_y : Same G7 (upd G7 y (.lst ((cutV (qs.map V.ref) none (some (i : Int))) ++ (cutV (qs.map V.ref) (some (i : Int)) (some ((i : Int) + 2))).reverse ++ (cutV (qs.map V.ref) (some ((i : Int) + 2)) none)))) := same_new n_y
      have h_y : upd G7 y (.lst ((cutV (qs.map V.ref) none (some (i : Int))) ++ (cutV (qs.map V.ref) (some (i : Int)) (some ((i : Int) + 2))).reverse ++ (cutV (qs.map V.ref) (some ((i : Int) + 2)) none))) y = some (.lst ((cutV (qs.map V.ref) none (some (i : Int))) ++ (cutV (qs.map V.ref) (some (i : Int)) (some ((i : Int) + 2))).reverse ++ (cutV (qs.map V.ref) (some ((i : Int) + 2)) none))) := upd_same
      generalize upd G7 y (.lst ((cutV (qs.map V.ref) none (some (i : Int))) ++ (cutV (qs.map V.ref) (some (i : Int)) (some ((i : Int) + 2))).reverse ++ (cutV (qs.map V.ref) (some ((i : Int) + 2)) none))) = G8 at *
      have b8 := b7.trans (But.of s_y)
      have pen8 := pen7.same s_y
      obtain ⟨S, hS⟩ := stps_of (.inl h_y) (fun v hv => by
        rw [List.append_assoc, List.mem_append, List.mem_append] at hv
        rcases hv with hv | hv | hv
        · exact fcut b8 _ _ v hv
        · exact fcut b8 _ _ v (List.mem_reverse.mp hv)
        · exact fcut b8 _ _ v hv)
      exact kq _ S _ k2 hS (by omega) pen8 b8
    refine ⟨_, rfl, rfl, _, rfl, ite2 (fun _ => ?_) (fun _ => ?_)⟩
    · skip
      refine ⟨(by show 0 ≤ sizeLine; decide), fun e1 n_e1 => ?_⟩
      have s_e1 : Same G2 (upd G2 e1 (.tup [])) := same_new n_e1
      have h_e1 : upd G2 e1 (.tup []) e1 = some (.tup []) := upd_same
      generalize upd G2 e1 (.tup []) = G3 at *
      have b3 := b2.trans (But.of s_e1)
      have pen3 := pen2.same s_e1
      refine ⟨_, rfl, 2, rfl, s0, _, rfl, SqT.of (fs b3), (by show ¬ ((0 : Nat) = 0 ∧ (2 : Nat) = 3); decide), fun e2 n_e2 => ?_⟩
      rw [show cutV [V.int sa, V.int sb, V.int sc] none (some 2) = [V.int sa, V.int sb] from rfl] at *
      have s_e2 : Same G3 (upd G3 e2 (.tup [V.int sa, V.int sb])) := same_new n_e2
      have h_e2 : upd G3 e2 (.tup [V.int sa, V.int sb]) e2 = some (.tup [V.int sa, V.int sb]) := upd_same
      generalize upd G3 e2 (.tup [V.int sa, V.int sb]) = G4 at *
      have b4 := b3.trans (But.of s_e2)
      have pen4 := pen3.same s_e2
      refine ⟨_, rfl, (by show 1 ≤ sizeLine; decide), fun e3 n_e3 => ?_⟩
      have s_e3 : Same G4 (upd G4 e3 (.tup [V.int 1])) := same_new n_e3
      have h_e3 : upd G4 e3 (.tup [V.int 1]) e3 = some (.tup [V.int 1]) := upd_same
      generalize upd G4 e3 (.tup [V.int 1]) = G5 at *
      have b5 := b4.trans (But.of s_e3)
      have pen5 := pen4.same s_e3
      refine ⟨_, _, _, _, rfl, rfl, SqT.of (fs b5), SqT.of h_e3, (by show 4 ≤ sizeLine; decide), (fun z => absurd z (by simp)), (fun _ z => absurd z (by simp)), fun _ _ e4 n_e4 => ?_⟩
      have s_e4 : Same G5 (upd G5 e4 (.tup ([V.int sa, V.int sb, V.int sc] ++ [V.int 1]))) := same_new n_e4
      have h_e4 : upd G5 e4 (.tup ([V.int sa, V.int sb, V.int sc] ++ [V.int 1])) e4 = some (.tup ([V.int sa, V.int sb, V.int sc] ++ [V.int 1])) := upd_same
      generalize upd G5 e4 (.tup ([V.int sa, V.int sb, V.int sc] ++ [V.int 1])) = G6 at *
      have b6 := b5.trans (But.of s_e4)
      have pen6 := pen5.same s_e4
      refine ⟨_, rfl, s0, _, _, _, rfl, rfl, SqT.of (fs b6), at_of rfl rfl, _, rfl, s0, _, _, _, rfl, rfl, SqT.of (fs b6), at_of rfl rfl, (by show 3 ≤ sizeLine; decide), fun e5 n_e5 => ?_⟩
      have s_e5 : Same G6 (upd G6 e5 (.tup [V.non, V.int sb, V.int sc])) := same_new n_e5
      have h_e5 : upd G6 e5 (.tup [V.non, V.int sb, V.int sc]) e5 = some (.tup [V.non, V.int sb, V.int sc]) := upd_same
      generalize upd G6 e5 (.tup [V.non, V.int sb, V.int sc]) = G7 at *
      have b7 := b6.trans (But.of s_e5)
      have pen7 := pen6.same s_e5
      refine ⟨_, rfl, s0, _, _, _, rfl, rfl, SqT.of (fs b7), at_of rfl rfl, _, rfl, s0, _, _, _, rfl, rfl, SqT.of (fs b7), at_of rfl rfl, (by show 3 ≤ sizeLine; decide), fun e6 n_e6 => ?_⟩
      have s_e6 : Same G7 (upd G7 e6 (.tup [V.int sa, V.int sb, V.str "5"])) := same_new n_e6
      have h_e6 : upd G7 e6 (.tup [V.int sa, V.int sb, V.str "5"]) e6 = some (.tup [V.int sa, V.int sb, V.str "5"]) := upd_same
      generalize upd G7 e6 (.tup [V.int sa, V.int sb, V.str "5"]) = G8 at *
      have b8 := b7.trans (But.of s_e6)
      have pen8 := pen7.same s_e6
      refine ⟨(by show 8 ≤ sizeLine; decide), fun o1 n_o1 => ?_⟩
      have s_o1 : Same G8 (upd G8 o1 (.lst [V.non, V.int 5, V.str "abc", V.ref e1, V.ref e2, V.ref e4, V.ref e5, V.ref e6])) := same_new n_o1
      have h_o1 : upd G8 o1 (.lst [V.non, V.int 5, V.str "abc", V.ref e1, V.ref e2, V.ref e4, V.ref e5, V.ref e6]) o1 = some (.lst [V.non, V.int 5, V.str "abc", V.ref e1, V.ref e2, V.ref e4, V.ref e5, V.ref e6]) := upd_same
      generalize upd G8 o1 (.lst [V.non, V.int 5, V.str "abc", V.ref e1, V.ref e2, V.ref e4, V.ref e5, V.ref e6]) = G9 at *
      have b9 := b8.trans (But.of s_o1)
      have pen9 := pen8.same s_o1
      refine ⟨_, rfl, _, rfl, s0, _, _, _, rfl, rfl, SqT.of (fs b9), at_of rfl rfl, _, rfl, s0, _, _, _, rfl, rfl, SqT.of (fs b9), at_of rfl rfl, (by show 3 ≤ sizeLine; decide), fun f1 n_f1 => ?_⟩
      have s_f1 : Same G9 (upd G9 f1 (.tup [V.int sa, V.bl true, V.int sc])) := same_new n_f1
      have h_f1 : upd G9 f1 (.tup [V.int sa, V.bl true, V.int sc]) f1 = some (.tup [V.int sa, V.bl true, V.int sc]) := upd_same
      generalize upd G9 f1 (.tup [V.int sa, V.bl true, V.int sc]) = G10 at *
      have b10 := b9.trans (But.of s_f1)
      have pen10 := pen9.same s_f1
      refine ⟨_, rfl, s0, _, _, _, rfl, rfl, SqT.of (fs b10), at_of rfl rfl, _, rfl, s0, _, _, _, rfl, rfl, SqT.of (fs b10), at_of rfl rfl, (by show 3 ≤ sizeLine; decide), fun f2 n_f2 => ?_⟩
      have s_f2 : Same G10 (upd G10 f2 (.tup [V.bl false, V.int sb, V.int sc])) := same_new n_f2
      have h_f2 : upd G10 f2 (.tup [V.bl false, V.int sb, V.int sc]) f2 = some (.tup [V.bl false, V.int sb, V.int sc]) := upd_same
      generalize upd G10 f2 (.tup [V.bl false, V.int sb, V.int sc]) = G11 at *
      have b11 := b10.trans (But.of s_f2)
      have pen11 := pen10.same s_f2
      refine ⟨_, rfl, _, rfl, s0, _, _, _, rfl, rfl, SqT.of (fs b11), at_of rfl rfl, _, rfl, s0, _, _, _, rfl, rfl, SqT.of (fs b11), at_of rfl rfl, (by show 3 ≤ sizeLine; decide), fun f3 n_f3 => ?_⟩
      have s_f3 : Same G11 (upd G11 f3 (.tup [V.int (-1), V.int sb, V.int sc])) := same_new n_f3
      have h_f3 : upd G11 f3 (.tup [V.int (-1), V.int sb, V.int sc]) f3 = some (.tup [V.int (-1), V.int sb, V.int sc]) := upd_same
      generalize upd G11 f3 (.tup [V.int (-1), V.int sb, V.int sc]) = G12 at *
      have b12 := b11.trans (But.of s_f3)
      have pen12 := pen11.same s_f3
      intro f4 n_f4
      have s_f4 : Same G12 (upd G12 f4 (.dK [])) := same_new n_f4
      have h_f4 : upd G12 f4 (.dK []) f4 = some (.dK []) := upd_same
      generalize upd G12 f4 (.dK []) = G13 at *
      have b13 := b12.trans (But.of s_f4)
      have pen13 := pen12.same s_f4
      refine ⟨(by show 0 ≤ sizeLine; decide), fun f5 n_f5 => ?_⟩
      have s_f5 : Same G13 (upd G13 f5 (.lst [])) := same_new n_f5
      have h_f5 : upd G13 f5 (.lst []) f5 = some (.lst []) := upd_same
      generalize upd G13 f5 (.lst []) = G14 at *
      have b14 := b13.trans (But.of s_f5)
      have pen14 := pen13.same s_f5
      refine ⟨(by show 5 ≤ sizeLine; decide), fun o2 n_o2 => ?_⟩
      have s_o2 : Same G14 (upd G14 o2 (.lst [V.ref f1, V.ref f2, V.ref f3, V.ref f4, V.ref f5])) := same_new n_o2
      have h_o2 : upd G14 o2 (.lst [V.ref f1, V.ref f2, V.ref f3, V.ref f4, V.ref f5]) o2 = some (.lst [V.ref f1, V.ref f2, V.ref f3, V.ref f4, V.ref f5]) := upd_same
      generalize upd G14 o2 (.lst [V.ref f1, V.ref f2, V.ref f3, V.ref f4, V.ref f5]) = G15 at *
      have b15 := b14.trans (But.of s_o2)
      have pen15 := pen14.same s_o2
      refine ⟨_, _, _, _, rfl, rfl, (s_o2 _ _ (s_f5 _ _ (s_f4 _ _ (s_f3 _ _ (s_f2 _ _ (s_f1 _ _ h_o1)))))), h_o2, (by show 13 ≤ sizeLine; decide), fun od n_od => ?_⟩
      have s_od : Same G15 (upd G15 od (.lst ([V.non, V.int 5, V.str "abc", V.ref e1, V.ref e2, V.ref e4, V.ref e5, V.ref e6] ++ [V.ref f1, V.ref f2, V.ref f3, V.ref f4, V.ref f5]))) := same_new n_od
      have h_od : upd G15 od (.lst ([V.non, V.int 5, V.str "abc", V.ref e1, V.ref e2, V.ref e4, V.ref e5, V.ref e6] ++ [V.ref f1, V.ref f2, V.ref f3, V.ref f4, V.ref f5])) od = some (.lst ([V.non, V.int 5, V.str "abc", V.ref e1, V.ref e2, V.ref e4, V.ref e5, V.ref e6] ++ [V.ref f1, V.ref f2, V.ref f3, V.ref f4, V.ref f5])) := upd_same
      generalize upd G15 od (.lst ([V.non, V.int 5, V.str "abc", V.ref e1, V.ref e2, V.ref e4, V.ref e5, V.ref e6] ++ [V.ref f1, V.ref f2, V.ref f3, V.ref f4, V.ref f5])) = G16 at *
      have b16 := b15.trans (But.of s_od)
      have pen16 := pen15.same s_od
      obtain ⟨xd, hxd⟩ := pen16.some
      have hall : ∀ v ∈ [V.non, V.int 5, V.str "abc", V.ref e1, V.ref e2, V.ref e4, V.ref e5, V.ref e6] ++ [V.ref f1, V.ref f2, V.ref f3, V.ref f4, V.ref f5], v ≠ V.ref d ∧ ∃ o, Stp G16 v o := fun v hv => by
        simp only [List.cons_append, List.nil_append, List.mem_cons, List.not_mem_nil, or_false] at hv
        have nn : ∀ {p : Addr} {o : HO}, G16 p = some o → o ≠ .dK ((Sum.inr "cells", V.ref l) :: xd) → V.ref p ≠ V.ref d := fun e n z => by injection z with z; rw [z, hxd] at e; exact n (Option.some.inj e).symm
        rcases hv with rfl | rfl | rfl | rfl | rfl | rfl | rfl | rfl | rfl | rfl | rfl | rfl | rfl
        · exact ⟨(fun z => nomatch z), stp_at rfl⟩
        · exact ⟨(fun z => nomatch z), stp_at rfl⟩
        · exact ⟨(fun z => nomatch z), stp_at rfl⟩
        · exact ⟨nn (s_od _ _ (s_o2 _ _ (s_f5 _ _ (s_f4 _ _ (s_f3 _ _ (s_f2 _ _ (s_f1 _ _ (s_o1 _ _ (s_e6 _ _ (s_e5 _ _ (s_e4 _ _ (s_e3 _ _ (s_e2 _ _ h_e1))))))))))))) (fun z => nomatch z), stp_tup (s_od _ _ (s_o2 _ _ (s_f5 _ _ (s_f4 _ _ (s_f3 _ _ (s_f2 _ _ (s_f1 _ _ (s_o1 _ _ (s_e6 _ _ (s_e5 _ _ (s_e4 _ _ (s_e3 _ _ (s_e2 _ _ h_e1))))))))))))) rfl⟩
        · exact ⟨nn (s_od _ _ (s_o2 _ _ (s_f5 _ _ (s_f4 _ _ (s_f3 _ _ (s_f2 _ _ (s_f1 _ _ (s_o1 _ _ (s_e6 _ _ (s_e5 _ _ (s_e4 _ _ (s_e3 _ _ h_e2)))))))))))) (fun z => nomatch z), stp_tup (s_od _ _ (s_o2 _ _ (s_f5 _ _ (s_f4 _ _ (s_f3 _ _ (s_f2 _ _ (s_f1 _ _ (s_o1 _ _ (s_e6 _ _ (s_e5 _ _ (s_e4 _ _ (s_e3 _ _ h_e2)))))))))))) rfl⟩
        · exact ⟨nn (s_od _ _ (s_o2 _ _ (s_f5 _ _ (s_f4 _ _ (s_f3 _ _ (s_f2 _ _ (s_f1 _ _ (s_o1 _ _ (s_e6 _ _ (s_e5 _ _ h_e4)))))))))) (fun z => nomatch z), stp_tup (s_od _ _ (s_o2 _ _ (s_f5 _ _ (s_f4 _ _ (s_f3 _ _ (s_f2 _ _ (s_f1 _ _ (s_o1 _ _ (s_e6 _ _ (s_e5 _ _ h_e4)))))))))) rfl⟩
        · exact ⟨nn (s_od _ _ (s_o2 _ _ (s_f5 _ _ (s_f4 _ _ (s_f3 _ _ (s_f2 _ _ (s_f1 _ _ (s_o1 _ _ (s_e6 _ _ h_e5))))))))) (fun z => nomatch z), stp_tup (s_od _ _ (s_o2 _ _ (s_f5 _ _ (s_f4 _ _ (s_f3 _ _ (s_f2 _ _ (s_f1 _ _ (s_o1 _ _ (s_e6 _ _ h_e5))))))))) rfl⟩
        · exact ⟨nn (s_od _ _ (s_o2 _ _ (s_f5 _ _ (s_f4 _ _ (s_f3 _ _ (s_f2 _ _ (s_f1 _ _ (s_o1 _ _ h_e6)))))))) (fun z => nomatch z), stp_tup (s_od _ _ (s_o2 _ _ (s_f5 _ _ (s_f4 _ _ (s_f3 _ _ (s_f2 _ _ (s_f1 _ _ (s_o1 _ _ h_e6)))))))) rfl⟩
        · exact ⟨nn (s_od _ _ (s_o2 _ _ (s_f5 _ _ (s_f4 _ _ (s_f3 _ _ (s_f2 _ _ h_f1)))))) (fun z => nomatch z), stp_tup (s_od _ _ (s_o2 _ _ (s_f5 _ _ (s_f4 _ _ (s_f3 _ _ (s_f2 _ _ h_f1)))))) rfl⟩
        · exact ⟨nn (s_od _ _ (s_o2 _ _ (s_f5 _ _ (s_f4 _ _ (s_f3 _ _ h_f2))))) (fun z => nomatch z), stp_tup (s_od _ _ (s_o2 _ _ (s_f5 _ _ (s_f4 _ _ (s_f3 _ _ h_f2))))) rfl⟩
        · exact ⟨nn (s_od _ _ (s_o2 _ _ (s_f5 _ _ (s_f4 _ _ h_f3)))) (fun z => nomatch z), stp_tup (s_od _ _ (s_o2 _ _ (s_f5 _ _ (s_f4 _ _ h_f3)))) rfl⟩
        · exact ⟨nn (s_od _ _ (s_o2 _ _ (s_f5 _ _ h_f4))) (fun z => nomatch z), _, .dct (s_od _ _ (s_o2 _ _ (s_f5 _ _ h_f4)))⟩
        · exact ⟨nn (s_od _ _ (s_o2 _ _ h_f5)) (fun z => nomatch z), _, .seq (.inl (s_od _ _ (s_o2 _ _ h_f5))) (fun _ h => nomatch h)⟩
      have h_od' := h_od
      clear s_e1 h_e1 n_e1 s_e2 h_e2 n_e2 s_e3 h_e3 n_e3 s_e4 h_e4 n_e4 s_e5 h_e5 n_e5 s_e6 h_e6 n_e6 s_o1 h_o1 n_o1 s_f1 h_f1 n_f1 s_f2 h_f2 n_f2 s_f3 h_f3 n_f3 s_f4 h_f4 n_f4 s_f5 h_f5 n_f5 s_o2 h_o2 n_o2 s_od n_od
      refine ⟨_, rfl, _, rfl, _, rfl, z, _, rfl, SqL.of (fz b16), fun q n_q => ?_⟩
      have s_q : Same G16 (upd G16 q (.lst (cutV (qs.map V.ref) none (some (i : Int))))) := same_new n_q
      have h_q : upd G16 q (.lst (cutV (qs.map V.ref) none (some (i : Int)))) q = some (.lst (cutV (qs.map V.ref) none (some (i : Int)))) := upd_same
      generalize upd G16 q (.lst (cutV (qs.map V.ref) none (some (i : Int)))) = G17 at *
      have b17 := b16.trans (But.of s_q)
      have pen17 := pen16.same s_q
      refine ⟨_, rfl, _, rfl, d, l, od, _, k2, rfl, pen17, (s_q _ _ h_od'), (by show 0 < 13; decide), (by show 13 < 1000; decide), by omega, fun v3 G18 k3 hv hk3 pen18 bt3 => ?_⟩
      obtain ⟨nd3, hs3⟩ := hall v3 hv
      obtain ⟨o3, hs3⟩ := ex_same hs3 s_q
      have hs3 := hs3.but nd3 bt3
      have b18 := b17.trans bt3
      have qd : q ≠ d := let ⟨x, e⟩ := pen17.some; ne_of h_q e (fun z => nomatch z)
      have h_q := bt3 _ _ qd h_q
      refine ⟨(by show 1 ≤ sizeLine; decide), fun m n_m => ?_⟩
      have hxs : ∃ o, Stp G18 (v3) o := ⟨o3, hs3⟩
      have s_m : Same G18 (upd G18 m (.lst [v3])) := same_new n_m
      have h_m : upd G18 m (.lst [v3]) m = some (.lst [v3]) := upd_same
      generalize upd G18 m (.lst [v3]) = G19 at *
      have b19 := b18.trans (But.of s_m)
      have pen19 := pen18.same s_m
      have hxs := ex_same hxs s_m
      refine ⟨_, _, _, _, rfl, rfl, (s_m _ _ h_q), h_m, by (try simp only [List.length_append, List.length_cons, List.length_nil, List.length_reverse]); have l0 := lcut none (some (i : Int)); rw [sizeLine_eq]; omega, fun r n_r => ?_⟩
      have s_r : Same G19 (upd G19 r (.lst ((cutV (qs.map V.ref) none (some (i : Int))) ++ [v3]))) := same_new n_r
      have h_r : upd G19 r (.lst ((cutV (qs.map V.ref) none (some (i : Int))) ++ [v3])) r = some (.lst ((cutV (qs.map V.ref) none (some (i : Int))) ++ [v3])) := upd_same
      generalize upd G19 r (.lst ((cutV (qs.map V.ref) none (some (i : Int))) ++ [v3])) = G20 at *
      have b20 := b19.trans (But.of s_r)
      have pen20 := pen19.same s_r
      have hxs := ex_same hxs s_r
      refine ⟨_, rfl, _, rfl, _, _, rfl, rfl, _, rfl, z, _, rfl, SqL.of (fz b20), fun u n_u => ?_⟩
      have s_u : Same G20 (upd G20 u (.lst (cutV (qs.map V.ref) (some ((i : Int) + 1)) none))) := same_new n_u
      have h_u : upd G20 u (.lst (cutV (qs.map V.ref) (some ((i : Int) + 1)) none)) u = some (.lst (cutV (qs.map V.ref) (some ((i : Int) + 1)) none)) := upd_same
      generalize upd G20 u (.lst (cutV (qs.map V.ref) (some ((i : Int) + 1)) none)) = G21 at *
      have b21 := b20.trans (But.of s_u)
      have pen21 := pen20.same s_u
      have hxs := ex_same hxs s_u
      refine ⟨_, _, _, _, rfl, rfl, (s_u _ _ h_r), h_u, by (try simp only [List.length_append, List.length_cons, List.length_nil, List.length_reverse]); have l0 := lcut none (some (i : Int)); have l1 := lcut (some ((i : Int) + 1)) none; rw [sizeLine_eq]; omega, fun y n_y => ?_⟩
      have s_y : Same G21 (upd G21 y (.lst ((cutV (qs.map V.ref) none (some (i : Int))) ++ [v3] ++ (cutV (qs.map V.ref) (some ((i : Int) + 1)) none)))) := same_new n_y
      have h_y : upd G21 y (.lst ((cutV (qs.map V.ref) none (some (i : Int))) ++ [v3] ++ (cutV (qs.map V.ref) (some ((i : Int) + 1)) none))) y = some (.lst ((cutV (qs.map V.ref) none (some (i : Int))) ++ [v3] ++ (cutV (qs.map V.ref) (some ((i : Int) + 1)) none))) := upd_same
      generalize upd G21 y (.lst ((cutV (qs.map V.ref) none (some (i : Int))) ++ [v3] ++ (cutV (qs.map V.ref) (some ((i : Int) + 1)) none))) = G22 at *
      have b22 := b21.trans (But.of s_y)
      have pen22 := pen21.same s_y
      have hxs := ex_same hxs s_y
      obtain ⟨S, hS⟩ := stps_of (.inl h_y) (fun v hv => by
        rw [List.append_assoc, List.mem_append, List.mem_append] at hv
        rcases hv with hv | hv | hv
        · exact fcut b22 _ _ v hv
        · simp only [List.mem_cons, List.not_mem_nil, or_false] at hv; subst hv; exact hxs
        · exact fcut b22 _ _ v hv)
      exact kq _ S _ k3 hS (by omega) pen22 b22
    refine ⟨_, rfl, rfl, _, rfl, ite2 (fun _ => ?_) (fun _ => ?_)⟩
    · skip
      refine ⟨_, rfl, _, rfl, _, rfl, z, _, rfl, SqL.of (fz b2), fun q n_q => ?_⟩
      have s_q : Same G2 (upd G2 q (.lst (cutV (qs.map V.ref) none (some (i : Int))))) := same_new n_q
      have h_q : upd G2 q (.lst (cutV (qs.map V.ref) none (some (i : Int)))) q = some (.lst (cutV (qs.map V.ref) none (some (i : Int)))) := upd_same
      generalize upd G2 q (.lst (cutV (qs.map V.ref) none (some (i : Int)))) = G3 at *
      have b3 := b2.trans (But.of s_q)
      have pen3 := pen2.same s_q
      refine ⟨_, rfl, s0, _, _, _, rfl, rfl, SqT.of (fs b3), at_of rfl rfl, _, rfl, s0, _, _, _, rfl, rfl, SqT.of (fs b3), at_of rfl rfl, _, rfl, s0, _, _, _, rfl, rfl, SqT.of (fs b3), at_of rfl rfl, (by show 3 ≤ sizeLine; decide), fun t n_t => ?_⟩
      have s_t : Same G3 (upd G3 t (.tup [V.int sa, V.int sa, V.int sc])) := same_new n_t
      have h_t : upd G3 t (.tup [V.int sa, V.int sa, V.int sc]) t = some (.tup [V.int sa, V.int sa, V.int sc]) := upd_same
      generalize upd G3 t (.tup [V.int sa, V.int sa, V.int sc]) = G4 at *
      have b4 := b3.trans (But.of s_t)
      have pen4 := pen3.same s_t
      refine ⟨(by show 1 ≤ sizeLine; decide), fun m n_m => ?_⟩
      have hxs : ∃ o, Stp G4 (V.ref t) o := stp_tup h_t rfl
      have s_m : Same G4 (upd G4 m (.lst [V.ref t])) := same_new n_m
      have h_m : upd G4 m (.lst [V.ref t]) m = some (.lst [V.ref t]) := upd_same
      generalize upd G4 m (.lst [V.ref t]) = G5 at *
      have b5 := b4.trans (But.of s_m)
      have pen5 := pen4.same s_m
      have hxs := ex_same hxs s_m
      refine ⟨_, _, _, _, rfl, rfl, (s_m _ _ (s_t _ _ h_q)), h_m, by (try simp only [List.length_append, List.length_cons, List.length_nil, List.length_reverse]); have l0 := lcut none (some (i : Int)); rw [sizeLine_eq]; omega, fun r n_r => ?_⟩
      have s_r : Same G5 (upd G5 r (.lst ((cutV (qs.map V.ref) none (some (i : Int))) ++ [V.ref t]))) := same_new n_r
      have h_r : upd G5 r (.lst ((cutV (qs.map V.ref) none (some (i : Int))) ++ [V.ref t])) r = some (.lst ((cutV (qs.map V.ref) none (some (i : Int))) ++ [V.ref t])) := upd_same
      generalize upd G5 r (.lst ((cutV (qs.map V.ref) none (some (i : Int))) ++ [V.ref t])) = G6 at *
      have b6 := b5.trans (But.of s_r)
      have pen6 := pen5.same s_r
      have hxs := ex_same hxs s_r
      refine ⟨_, rfl, _, rfl, _, _, rfl, rfl, _, rfl, z, _, rfl, SqL.of (fz b6), fun u n_u => ?_⟩
      have s_u : Same G6 (upd G6 u (.lst (cutV (qs.map V.ref) (some ((i : Int) + 1)) none))) := same_new n_u
      have h_u : upd G6 u (.lst (cutV (qs.map V.ref) (some ((i : Int) + 1)) none)) u = some (.lst (cutV (qs.map V.ref) (some ((i : Int) + 1)) none)) := upd_same
      generalize upd G6 u (.lst (cutV (qs.map V.ref) (some ((i : Int) + 1)) none)) = G7 at *
      have b7 := b6.trans (But.of s_u)
      have pen7 := pen6.same s_u
      have hxs := ex_same hxs s_u
      refine ⟨_, _, _, _, rfl, rfl, (s_u _ _ h_r), h_u, by (try simp only [List.length_append, List.length_cons, List.length_nil, List.length_reverse]); have l0 := lcut none (some (i : Int)); have l1 := lcut (some ((i : Int) + 1)) none; rw [sizeLine_eq]; omega, fun y n_y => ?_⟩
      have s_y : Same G7 (upd G7 y (.lst ((cutV (qs.map V.ref) none (some (i : Int))) ++ [V.ref t] ++ (cutV (qs.map V.ref) (some ((i : Int) + 1)) none)))) := same_new n_y
      have h_y : upd G7 y (.lst ((cutV (qs.map V.ref) none (some (i : Int))) ++ [V.ref t] ++ (cutV (qs.map V.ref) (some ((i : Int) + 1)) none))) y = some (.lst ((cutV (qs.map V.ref) none (some (i : Int))) ++ [V.ref t] ++ (cutV (qs.map V.ref) (some ((i : Int) + 1)) none))) := upd_same
      generalize upd G7 y (.lst ((cutV (qs.map V.ref) none (some (i : Int))) ++ [V.ref t] ++ (cutV (qs.map V.ref) (some ((i : Int) + 1)) none))) = G8 at *
      have b8 := b7.trans (But.of s_y)
      have pen8 := pen7.same s_y
      have hxs := ex_same hxs s_y
      obtain ⟨S, hS⟩ := stps_of (.inl h_y) (fun v hv => by
        rw [List.append_assoc, List.mem_append, List.mem_append] at hv
        rcases hv with hv | hv | hv
        · exact fcut b8 _ _ v hv
        · simp only [List.mem_cons, List.not_mem_nil, or_false] at hv; subst hv; exact hxs
        · exact fcut b8 _ _ v hv)
      exact kq _ S _ k2 hS (by omega) pen8 b8
    obtain ⟨S, hS⟩ := stps_of (.inl (fz b2)) (ft b2)
    exact ⟨_, rfl, kq _ S _ k2 hS (by omega) pen2 b2⟩
end
end Z

set_option Elab.async false
set_option linter.all false
set_option maxRecDepth 100000
set_option maxHeartbeats 8000000
/-! the errors that are met; the promises of is_joining as the law needs them -/
namespace Z
open PySem L2 XV KJ LamX
abbrev qL (q : Str) : Str := (PyProof.Rows.envOfC q (defScope s_law) 0 0 .none).qual ++ "<lambda>"
/-- the tables that lambdas are kept in -/
def TL (A : Ad) : List (Addr × Str) := [(A.p_law, qL "law")]
def manyF (i : Int) : List (Str × V) := [("most", .int 26), ("many", .int i), ("what", .str "signs")]
def indexF (i : Int) : List (Str × V) := [("index", .int i)]
theorem lk_what (i : Int) : (manyF i).lookup ("what" : Str) = some (.str "signs") := by kernel_rfl
theorem lk_many (i : Int) : (manyF i).lookup ("many" : Str) = some (.int i) := by kernel_rfl
theorem lk_most (i : Int) : (manyF i).lookup ("most" : Str) = some (.int 26) := by kernel_rfl
theorem lk_index (i : Int) : (indexF i).lookup ("index" : Str) = some (.int i) := by kernel_rfl
/-- what _law_met makes of the lambda that it gets -/
def TMet (CT CB : Addr) : (XK → Hp → VK → Prop) → Hp → VK → Prop := fun tl H Q => ∀ (E : XK) (Qn : VK),
  (∀ d G i, G d = some (.xd (manyF i)) → (∀ t G', Same G G' → G' t = some (.tup [.str "signs", .int i, .int 26]) → Q (.ref t) G') → E (.ref CT) (some d) G) →
  (∀ d G i, G d = some (.xd (indexF i)) → (∀ t G', Same G G' → G' t = some (.tup [.str "count", .int i]) → Q (.ref t) G') → E (.ref CB) (some d) G) → tl E H Qn
theorem exm_Ec {K : PySem.W.Frag} {mg : Str → Option Value} {cj C fI : Addr} {x qual : Str} {st : Stmt} {fd : FuncData} {fs : List Str} (E : Ec K mg cj C fI x qual st fd fs) : PySem.W.exmOne K (.ref C) (.ref C) = some true := by
  have s1 : PySem.W.subIn K (.ref C) (.ref C) = some true := by
    obtain ⟨cd, h1, h2⟩ := E.m
    show PySem.W.mroIn K C (.ref C) = some true
    unfold PySem.W.mroIn
    rw [h1, Option.bind_some, h2]
    simp
  exact PySem.W.exm_ref E.R.sb E.R.hd E.ty s1
theorem exm_no {K : PySem.W.Frag} {mg : Str → Option Value} {cj C fI C2 fI2 : Addr} {x qual x2 qual2 : Str} {st st2 : Stmt} {fd fd2 : FuncData} {fs fs2 : List Str} (E : Ec K mg cj C fI x qual st fd fs) (E2 : Ec K mg cj C2 fI2 x2 qual2 st2 fd2 fs2) (n1 : C ≠ C2) (n2 : C ≠ cj) : PySem.W.exmOne K (.ref C2) (.ref C) = some false := by
  have s1 : PySem.W.subIn K (.ref C2) (.ref C) = some false := by
    obtain ⟨cd, h1, h2⟩ := E2.m
    show PySem.W.mroIn K C2 (.ref C) = some false
    unfold PySem.W.mroIn
    rw [h1, Option.bind_some, h2]
    simp [n1.symm, n2.symm, n1, n2]
  exact PySem.W.exm_ref E.R.sb E.R.hd E.ty s1
theorem xf_of {K : PySem.W.Frag} {D : Addr} (R : ErrR K D) : XfC K D := ⟨R.ga, R.gt, R.sb, R.hd⟩
section
variable {P : Program} {w : World} {K : PySem.W.Frag} {mg : Str → Option Value} {base : Heap} {A : Ad}
theorem sc_met : FnScope ["_law_call", "e"] ["_law_call"] (defScope s_met) := ⟨rfl, rfl, rfl, by decide +kernel, rfl, by decide +kernel, by decide +kernel⟩
theorem met_gives {X : Cx} {cdv : Value} {q : Str} (T : Txt X.K X.mg A) : GivesS X ["_law_call", "e"] "_law_met" (defScope s_met) A.a_met cdv (defBody s_met) "_law_call" q (TMet A.c_TooMany A.c_BadCount) := by
  intro f c' s H Q tl act hc h
  refine ⟨_, (pss_cons (ps_try_manyAs (i := 1) (tb := fun W D σ H => σ[0]? = some (some (.ref f)) ∧ H c' = some (CodeO c' q) ∧ tl (WE W σ) H (fun _ H' => D.nx σ H')) rfl rfl sc_met.nd rfl rfl takes_none5
        (fun W pn xe tk _ => pss_one (ps_expr (act W pn xe _ _ tk)))
        (.cons (c := .ref A.c_TooMany) ⟨rfl, by decide, .inl T.E_TooMany.g⟩ (fun a oe cls d pn hz hf => pss_one (ps_ret (pe_tup (pa_cons (pe_xf (xf_of T.E_TooMany.R) (T.E_TooMany.no "what" (by decide +kernel)) hz hf (pv 1)) (pa_cons (pe_xf (xf_of T.E_TooMany.R) (T.E_TooMany.no "many" (by decide +kernel)) hz hf (pv 1)) (pa_cons (pe_xf (xf_of T.E_TooMany.R) (T.E_TooMany.no "most" (by decide +kernel)) hz hf (pv 1)) pa_nil))))))
        (.cons (c := .ref A.c_BadCount) ⟨rfl, by decide, .inl T.E_BadCount.g⟩ (fun a oe cls d pn hz hf => pss_one (ps_ret (pe_tup (pa_cons pe_str (pa_cons (pe_xf (xf_of T.E_BadCount.R) (T.E_BadCount.no "index" (by decide +kernel)) hz hf (pv 1)) pa_nil))))) .nil)))
    (pss_one (ps_ret (pe_tup pa_nil)))), ?_⟩
  refine ⟨rfl, hc, h _ _ (fun d G i hd q => ?_) (fun d G i hd q => ?_)⟩
  · refine ⟨true, exm_Ec T.E_TooMany, fun _ a na => ?_, fun z => nomatch z⟩
    exact ⟨_, rfl, rfl, rfl, d, _, _, rfl, hd, lk_what i, _, rfl, rfl, rfl, d, _, _, rfl, hd, lk_many i, _, rfl, rfl, rfl, d, _, _, rfl, hd, lk_most i, (by show 3 ≤ sizeLine; decide), fun t nt => q t _ (same_new nt) upd_same⟩
  · refine ⟨false, exm_no T.E_TooMany T.E_BadCount T.ne T.nej, fun z => (nomatch z), fun _ => ⟨true, exm_Ec T.E_BadCount, fun _ a na => ?_, fun z => nomatch z⟩⟩
    exact ⟨_, rfl, rfl, rfl, d, _, _, rfl, hd, lk_index i, (by show 2 ≤ sizeLine; decide), fun t nt => q t _ (same_new nt) upd_same⟩

end
end Z

set_option Elab.async false
set_option linter.all false
set_option maxRecDepth 100000
set_option maxHeartbeats 8000000
/-! the law -/
namespace Z
open PySem L2 XV KJ LamX
theorem tl_law {A : Ad} : (A.p_law, qL "law") ∈ TL A := by unfold TL; simp
theorem tlu_law {A : Ad} : ∀ p ∈ TL A, p.1 = A.p_law → p.2 = qL "law" := by
  intro p hp
  unfold TL at hp
  simp only [List.mem_cons, List.not_mem_nil, or_false] at hp
  subst hp
  exact fun _ => rfl
theorem _root_.LamX.Tabs.but {T : List (Addr × Str)} {H G : Hp} {d : Addr} {kvs : List (Key × V)} (t : Tabs T H) (hd : H d = some (.dK kvs)) (bt : But d H G) : Tabs T G := fun p hp => by
  obtain ⟨ps, h1, h2, h3⟩ := t p hp
  refine ⟨ps, bt _ _ (ne_of h1 hd (fun z => nomatch z)) h1, h2, fun pos cv hc => ?_⟩
  obtain ⟨c, e1, e2⟩ := h3 pos cv hc
  exact ⟨c, e1, bt _ _ (ne_of e2 hd (fun z => by unfold CodeO at z; cases z)) e2⟩
theorem _root_.LamX.Tabs.pen {T : List (Addr × Str)} {H G : Hp} {d l : Addr} {k : Nat} (t : Tabs T H) (pen : Pen H d l k) (bt : But d H G) : Tabs T G := let ⟨_, e⟩ := pen.some; t.but e bt
theorem Pen.ext {H G : Hp} {d l : Addr} {k : Nat} (h : Pen H d l k) (s : ExtN H G) : Pen G d l k := by
  obtain ⟨ns, m, h1, h2, h3, h4⟩ := h
  exact ⟨ns, m, s _ _ h1 (fun _ z => nomatch z), s _ _ h2 (fun _ z => nomatch z), h3, h4⟩
theorem Steps.but {H G : Hp} {d l z : Addr} {k : Nat} {L : List (Int × Int × Int)} (h : Steps H z L) (pen : Pen H d l k) (b : But d H G) : Steps G z L := by
  obtain ⟨qs, h1, h2, h3⟩ := h
  obtain ⟨x, e⟩ := pen.some
  exact ⟨qs, b _ _ (ne_of h1 e (fun z => nomatch z)) h1, h2, fun i q o a c => b _ _ (ne_of (h3 i q o a c) e (fun z => nomatch z)) (h3 i q o a c)⟩
theorem Steps.ext {H G : Hp} {z : Addr} {L : List (Int × Int × Int)} (h : Steps H z L) (s : ExtN H G) : Steps G z L := by
  obtain ⟨qs, h1, h2, h3⟩ := h
  exact ⟨qs, s _ _ h1 (fun _ z => nomatch z), h2, fun i q o a c => s _ _ (h3 i q o a c) (fun _ z => nomatch z)⟩
theorem Steps.same {H G : Hp} {z : Addr} {L : List (Int × Int × Int)} (h : Steps H z L) (s : Same H G) : Steps G z L := h.ext fun b o e _ => s b o e
theorem Steps.stps {H : Hp} {z : Addr} {L : List (Int × Int × Int)} (h : Steps H z L) : Stps H (.ref z) (some (L.map some)) := by
  obtain ⟨qs, h1, h2, h3⟩ := h
  refine .seq (.inl h1) (by rw [List.length_map, List.length_map, h2]) fun i v o a b => ?_
  rw [List.getElem?_map] at a b
  obtain ⟨q, a1, rfl⟩ := Option.map_eq_some_iff.mp a
  obtain ⟨t, b1, rfl⟩ := Option.map_eq_some_iff.mp b
  exact .seq (xs := [.int t.1, .int t.2.1, .int t.2.2]) (.inr (h3 i q t a1 b1)) fun x hx => by
    simp only [List.mem_cons, List.not_mem_nil, or_false] at hx
    rcases hx with rfl | rfl | rfl <;> exact odd_flat rfl
/-- the same steps as lists in a tuple -/
theorem lists_stps {H : Hp} {t : Addr} {hs : List Addr} {L : List (Int × Int × Int)} (h1 : H t = some (.tup (hs.map V.ref))) (h2 : hs.length = L.length) (h3 : ∀ (i : Nat) (q : Addr) (o : Int × Int × Int), hs[i]? = some q → L[i]? = some o → H q = some (.lst [.int o.1, .int o.2.1, .int o.2.2])) : Stps H (.ref t) (some (L.map some)) := by
  refine .seq (.inr h1) (by rw [List.length_map, List.length_map, h2]) fun i v o a b => ?_
  rw [List.getElem?_map] at a b
  obtain ⟨q, a1, rfl⟩ := Option.map_eq_some_iff.mp a
  obtain ⟨t, b1, rfl⟩ := Option.map_eq_some_iff.mp b
  exact .seq (xs := [.int t.1, .int t.2.1, .int t.2.2]) (.inl (h3 i q t a1 b1)) fun x hx => by
    simp only [List.mem_cons, List.not_mem_nil, or_false] at hx
    rcases hx with rfl | rfl | rfl <;> exact odd_flat rfl
theorem Odd.ext {H G : Hp} {v : V} (h : Odd H v) (s : ExtN H G) : Odd G v := by
  cases h with
  | non => exact .non
  | bl b => exact .bl b
  | int i => exact .int i
  | str x => exact .str x
  | lst h => exact .lst (s _ _ h (fun _ z => nomatch z))
  | tup h => exact .tup (s _ _ h (fun _ z => nomatch z))
  | dct h => exact .dct (s _ _ h (fun _ z => nomatch z))
theorem BadAt.uniq {xs : List V} {i j : Nat} (a : BadAt xs i) (b : BadAt xs j) : i = j := by
  obtain ⟨⟨v, v1, v2⟩, va⟩ := a
  obtain ⟨⟨w, w1, w2⟩, wa⟩ := b
  rcases Nat.lt_trichotomy i j with h | h | h
  · rw [wa i v h v1] at v2; cases v2
  · exact h
  · rw [va j w h w1] at w2; cases w2
theorem BadAt.no {ns : List Int} {i : Nat} (h : BadAt (ns.map V.int) i) (hn : ∀ n ∈ ns, 0 ≤ n) : False := by
  obtain ⟨⟨v, v1, v2⟩, _⟩ := h
  rw [List.getElem?_map] at v1
  obtain ⟨n, n1, rfl⟩ := Option.map_eq_some_iff.mp v1
  have : isC (.int n) = true := decide_eq_true (hn n (List.mem_of_getElem? n1))
  rw [this] at v2
  cases v2
theorem map_int_inj : ∀ {a b : List Int}, a.map V.int = b.map V.int → a = b
  | [], [], _ => rfl
  | x :: a, y :: b, h => by
    rw [List.map_cons, List.map_cons] at h
    injection h with h1 h2
    injection h1 with h1
    rw [h1, map_int_inj h2]
  | [], _ :: _, h => nomatch h
  | _ :: _, [], h => nomatch h
def spGood (K : PySem.W.Frag) : Sp := fun vs H Q _ => ∃ (a : Addr) (ns : List Int) (v : V) (S : Option (List (Option (Int × Int × Int)))) (b : Bool), vs = [.ref a, v] ∧ SqE K H a (ns.map V.int) ∧ (∀ n ∈ ns, 0 ≤ n) ∧ 2 ≤ ns.length ∧ ns.length ≤ 26 ∧ Stps H v S ∧ jd ns S = b ∧ ∀ G, Same H G → Q (.bl b) G
theorem goodT (K : PySem.W.Frag) (C1 C2 : Addr) : ∀ vs H Q E, spGood K vs H Q E → spIsJ K C1 C2 vs H Q E := fun vs H Q E ⟨a, ns, v, S, b, e, h, hn, n2, n26, hS, hb, k⟩ => by
  refine ⟨a, _, v, S, e, h, fun x hx => ?_, hS, fun _ ms e2 _ G s => ?_, fun n => absurd ⟨by rw [List.length_map]; exact n2, by rw [List.length_map]; exact n26⟩ n, fun _ i hi => (hi.no hn).elim⟩
  · obtain ⟨n, _, rfl⟩ := List.mem_map.mp hx
    exact .int n
  · rw [← map_int_inj e2, hb]; exact k G s
theorem eqv_count (i : Int) : PyData.eqv (.tuple [.str "count", .int i]) (.tuple [.str "count", .int i]) = true := by
  simp [PyData.eqv, PyData.eqvAll]
theorem eqv_signs (i j : Int) : PyData.eqv (.tuple [.str "signs", .int i, .int j]) (.tuple [.str "signs", .int i, .int j]) = true := by
  simp [PyData.eqv, PyData.eqvAll]
theorem shaped_count (i : Int) : SeqAt.shaped (.tuple [.str "count", .int i]) = true := by simp [SeqAt.shaped, PyData.canLay0, PyData.canLayAll0, PyData.depth, PyData.depthAll]; decide +kernel
theorem shaped_signs (i j : Int) : SeqAt.shaped (.tuple [.str "signs", .int i, .int j]) = true := by simp [SeqAt.shaped, PyData.canLay0, PyData.canLayAll0, PyData.depth, PyData.depthAll]; decide +kernel
theorem call_listK {X : Cx} {K : PySem.W.Frag} (hK : X.K = K) : CallR X (.type "list") (fun xs H Q => ∃ p ys, xs = [.ref p] ∧ (SqL K H p ys ∨ SqT K H p ys) ∧ ∀ l, H l = none → Q (.ref l) (upd H l (.lst ys))) := by
  subst hK
  exact call_list_of
theorem rep_flat (n : Nat) (x : V) : (List.replicate n [x]).flatten = List.replicate n x := by
  induction n with
  | zero => rfl
  | succ n ih => rw [List.replicate_succ, List.flatten_cons, ih, List.replicate_succ]; rfl
def spLaw (K : PySem.W.Frag) (A : Ad) : Sp := fun vs H Q _ => ∃ (a : Addr) (ns : List Int), vs = [.ref a] ∧ SqL K H a (ns.map V.int) ∧ ns.length ≤ 63 ∧ Tabs (TL A) H ∧ ∀ H', Q (.bl true) H'
section
variable {P : Program} {w : World} {K : PySem.W.Frag} {mg : Str → Option Value} {base : Heap} {A : Ad}
theorem sc_law : FnScope ["_law_script", "_law_pen", "_law_turn", "_law_counts", "_law_steps", "_law_handed", "_law_lap", "_law_bent_here", "_law_odd", "_law_wrong", "_law_at", "_law_many", "_law_step"] ["_law_script"] (defScope s_law) := ⟨rfl, rfl, rfl, by decide +kernel, rfl, by decide +kernel, by decide +kernel⟩
theorem ok_law (T : Txt K mg A) (TB : TabB base mg A.k_law A.p_law) : FnOk P w K mg base CX0 10 A.a_law A.d_law ["_law_script"] (spLaw K A) := by
  have G_penof := ok_pen (P := P) (w := w) (base := base) T
  have G_draw := ok_draw (P := P) (w := w) (base := base) T
  have G_pick := ok_pick (P := P) (w := w) (base := base) T
  have G_somecounts := ok_somecounts (P := P) (w := w) (base := base) T
  have G_oddcounts := ok_oddcounts (P := P) (w := w) (base := base) T
  have G_drawn := ok_drawn (P := P) (w := w) (base := base) T
  have G_isright := ok_isright (P := P) (w := w) (base := base) T
  have G_bent := ok_bent (P := P) (w := w) (base := base) T
  have G_isjoining := ok_isjoining (P := P) (w := w) (base := base) T
  have G_good := G_isjoining.imp (goodT K A.c_TooMany A.c_BadCount)
  refine T.F_law.ok sc_law (fun vs H Q E h => ?_) (fun Ar outer s H vs Q E hr h => ?_)
  · obtain ⟨a, ns, rfl, _⟩ := h; rfl
  · obtain ⟨a, ns, rfl, hs, hn, tb, kq⟩ := h
    refine ⟨_, (pss_cons (ps_set (i := 1) sc_law.nd rfl (Or.inl rfl) (pe_call G_penof (hr.mono (by decide)) (by rfl) T.g_penof T.F_penof.kp T.b_penof .nil pass0 (pa_cons (pv 0) pa_nil)))
      (pss_cons (ps_for PassesOwn.never rfl (pi_range1 (by rfl) T.z_range (pa_cons pe_int pa_nil)) (pg_name (i := 2) sc_law.nd rfl (Or.inl rfl))
         (pss_cons (ps_set (i := 3) sc_law.nd rfl (Or.inl rfl) (pe_call G_somecounts (hr.mono (by decide)) (by rfl) T.g_somecounts T.F_somecounts.kp T.b_somecounts .nil pass0 (pa_cons (pv 1) (pa_cons (pe_op op_add pe_int (pe_call G_draw (hr.mono (by decide)) (by rfl) T.g_draw T.F_draw.kp T.b_draw .nil pass0 (pa_cons (pv 1) (pa_cons pe_int pa_nil)))) pa_nil))))
         (pss_cons (ps_set (i := 4) sc_law.nd rfl (Or.inr rfl) (pe_call G_drawn (hr.mono (by decide)) (by rfl) T.g_drawn T.F_drawn.kp T.b_drawn .nil pass0 (pa_cons (pv 1) (pa_cons (pv 3) pa_nil))))
         (pss_cons (ps_set (i := 5) sc_law.nd rfl (Or.inl rfl) (pe_callTy call_tuple_of (by rfl) T.z_tuple (by decide +kernel) (pa_cons (pe_lc (own := [("_law_step", 12)]) (by rfl) sc_law.nd (pi_list (pv 4)) (blkOk_by (own := [("_law_step", 12)]) (N := ["_law_script", "_law_pen", "_law_turn", "_law_counts", "_law_steps", "_law_handed", "_law_lap", "_law_bent_here", "_law_odd", "_law_wrong", "_law_at", "_law_many", "_law_step"]) (sc := defScope s_law) (by decide +kernel)) (fun _ _ _ _ _ => (pg_name (i := 12) sc_law.nd rfl (Or.inl rfl))) (fun _ _ _ _ _ => pts_nil) (fun _ _ _ _ _ => (pe_callTy (T := "list") (call_listK (K := K) rfl) (by rfl) T.z_list (by decide +kernel) (pa_cons (pv 12) pa_nil)))) pa_nil)))
         (pss_cons (ps_if (PW.pt (pw_or (pt_cmpR op_notBl (pe_call G_good (hr.mono (by decide)) (by rfl) T.g_isjoining T.F_isjoining.kp T.b_isjoining .nil passX (pa_cons (pv 3) (pa_cons (pv 4) pa_nil))) pe_bl (nomark _)) (pw_or1 (pt_cmpR op_notBl (pe_call G_good (hr.mono (by decide)) (by rfl) T.g_isjoining T.F_isjoining.kp T.b_isjoining .nil passX (pa_cons (pe_callTy call_tuple_of (by rfl) T.z_tuple (by decide +kernel) (pa_cons (pv 3) pa_nil)) (pa_cons (pv 5) pa_nil))) pe_bl (nomark _))))) (pss_one (ps_ret pe_bl))
           pss_nil)
         (pss_cons (ps_for PassesOwn.never rfl (pi_range1 (by rfl) T.z_range (pa_cons pe_int pa_nil)) (pg_name (i := 6) sc_law.nd rfl (Or.inl rfl))
            (pss_cons (ps_set (i := 7) sc_law.nd rfl (Or.inl rfl) (pe_call G_bent (hr.mono (by decide)) (by rfl) T.g_bent T.F_bent.kp T.b_bent .nil pass0 (pa_cons (pv 1) (pa_cons (pv 4) pa_nil))))
            (pss_one (ps_if (pt_cmpR op_ne (pe_callB call_reprB (by rfl) T.z_repr (by decide +kernel) (pa_cons (pe_call G_good (hr.mono (by decide)) (by rfl) T.g_isjoining T.F_isjoining.kp T.b_isjoining .nil passX (pa_cons (pv 3) (pa_cons (pv 7) pa_nil))) pa_nil)) (pe_callB call_reprB (by rfl) T.z_repr (by decide +kernel) (pa_cons (pe_call G_isright (hr.mono (by decide)) (by rfl) T.g_isright T.F_isright.kp T.b_isright .nil pass0 (pa_cons (pv 3) (pa_cons (pv 7) pa_nil))) pa_nil)) (nomark _)) (pss_one (ps_ret pe_bl))
              pss_nil))))
         (pss_cons (ps_set (i := 8) sc_law.nd rfl (Or.inl rfl) (pe_call G_pick (hr.mono (by decide)) (by rfl) T.g_pick T.F_pick.kp T.b_pick .nil pass0 (pa_cons (pv 1) (pa_cons (pe_lst (pa_cons pe_non (pa_cons pe_int (pa_cons pe_str (pa_cons pe_dnewK (pa_cons (pe_tup pa_nil) (pa_cons (pe_lst pa_nil) pa_nil))))))) pa_nil))))
         (pss_cons (ps_if (pt_cmpR op_notBl (pe_call G_good (hr.mono (by decide)) (by rfl) T.g_isjoining T.F_isjoining.kp T.b_isjoining .nil passX (pa_cons (pv 3) (pa_cons (pv 8) pa_nil))) pe_bl (nomark _)) (pss_one (ps_ret pe_bl))
           pss_nil)
         (pss_cons (ps_asg (pe_call G_oddcounts (hr.mono (by decide)) (by rfl) T.g_oddcounts T.F_oddcounts.kp T.b_oddcounts .nil pass0 (pa_cons (pv 1) (pa_cons (pv 3) pa_nil))) (pg_tup (by rfl) (pgs_cons (pg_name (i := 9) sc_law.nd rfl (Or.inr rfl)) (pgs_cons (pg_name (i := 10) sc_law.nd rfl (Or.inl rfl)) pgs_nil))))
         (pss_one (ps_if (pt_cmpR (op_neD hr.units) (pe_lamcallS (k := 7) (T := TL A) (Ng := ["_law_call", "e"]) (TT := TMet A.c_TooMany A.c_BadCount) T.F_met (by rfl) T.g_met T.b_met sc_met rfl (Or.inl rfl) (fun cdv => met_gives T) TB rfl tl_law tlu_law (hr.mono (by decide)) (lamS_by (show lamSB (defScope s_law) _ = true by decide +kernel)) rfl (fun _ _ _ _ _ => rfl) (fun Ar2 ou2 s2 H2 E2 f2 c2 hr2 => (pe_call G_isjoining (hr2.mono (by decide)) (by rfl) T.g_isjoining T.F_isjoining.kp T.b_isjoining .nil (passes_call (takes_of rfl rfl rfl rfl) (fun _ _ _ _ h => h)) (pa_cons (pv 9) (pa_cons (pv 4) pa_nil))))) (pe_tup (pa_cons pe_str (pa_cons (pv 10) pa_nil))) (nomark _)) (pss_one (ps_ret pe_bl))
           pss_nil)))))))))))
      (pss_cons (ps_set (i := 11) sc_law.nd rfl (Or.inr rfl) (pe_call G_pick (hr.mono (by decide)) (by rfl) T.g_pick T.F_pick.kp T.b_pick .nil pass0 (pa_cons (pv 1) (pa_cons (pe_lst (pa_cons pe_int (pa_cons pe_int (pa_cons pe_int pa_nil)))) pa_nil))))
      (pss_one (ps_ret (pe_cmpR (op_eqD hr.units) (pe_lamcallS (k := 7) (T := TL A) (Ng := ["_law_call", "e"]) (TT := TMet A.c_TooMany A.c_BadCount) T.F_met (by rfl) T.g_met T.b_met sc_met rfl (Or.inl rfl) (fun cdv => met_gives T) TB rfl tl_law tlu_law (hr.mono (by decide)) (lamS_by (show lamSB (defScope s_law) _ = true by decide +kernel)) rfl (fun _ _ _ _ _ => rfl) (fun Ar2 ou2 s2 H2 E2 f2 c2 hr2 => (pe_call G_isjoining (hr2.mono (by decide)) (by rfl) T.g_isjoining T.F_isjoining.kp T.b_isjoining .nil (passes_call (takes_of rfl rfl rfl rfl) (fun _ _ _ _ h => h)) (pa_cons (pe_op op_rep (pe_lst (pa_cons pe_int pa_nil)) (pv 11)) (pa_cons (pe_lst pa_nil) pa_nil))))) (pe_tup (pa_cons pe_str (pa_cons (pv 11) (pa_cons pe_int pa_nil)))) (nomark _))))))), ?_⟩
    refine ⟨_, rfl, a, ns, rfl, hs, hn, fun d l H0 pen0 s0 _ => ?_⟩
    refine ⟨4, rfl, by decide, by decide, ?_⟩
    refine for_range (lo := 0) (n := (4 : Int).toNat) (fun j σ G => (∃ z2 z3 z4 z5 z6 z7 z8 z9 z10 z11 z12, σ = [some (.ref a), some (.ref d), z2, z3, z4, z5, z6, z7, z8, z9, z10, z11, z12]) ∧ (∃ k, k ≤ 300 * j ∧ Pen G d l k) ∧ Tabs (TL A) G) ⟨⟨_, _, _, _, _, _, _, _, _, _, _, rfl⟩, ⟨0, Nat.le_refl _, pen0⟩, tb.ext s0⟩ (fun j σ G hj hP => ?_) (fun σ G hP => ?_)
    · obtain ⟨⟨z2, z3, z4, z5, z6, z7, z8, z9, z10, z11, z12, rfl⟩, ⟨k, hk, pen⟩, tb⟩ := hP
      have j4 : j < 4 := hj
      refine ⟨_, rfl, _, rfl, d, l, 8, k, rfl, pen, by decide, by decide, by omega, fun v1 G1 k1 v1a v1b hk1 pen1 bt1 => ?_⟩
      obtain ⟨m, rfl⟩ : ∃ m : Nat, v1 = (m : Int) := ⟨v1.toNat, (Int.toNat_of_nonneg v1a).symm⟩
      refine ⟨_, _, rfl, rfl, d, l, k1, 2 + m, rfl, pen1, by omega, by omega, fun p cs G2 k2 hcl hcn hk2 pen2 hp2 bt2 => ?_⟩
      have tb2 := (tb.pen pen bt1).pen pen1 bt2
      refine ⟨_, rfl, _, rfl, d, l, p, k2, cs, rfl, pen2, hp2, by omega, by omega, by omega, fun z L G3 k3 hS hL hj3 hk3 pen3 bt3 => ?_⟩
      have tb3 := tb2.pen pen2 bt3
      have pd : p ≠ d := let ⟨x, e⟩ := pen2.some; ne_of hp2 e (fun z => nomatch z)
      have hp3 := bt3 _ _ pd hp2
      obtain ⟨qs, hz3, hql, hqt⟩ := id hS
      have lq : (qs.map V.ref).length ≤ 25 := by rw [List.length_map]; omega
      refine ⟨_, rfl, z, rfl, ⟨_, SqL.of hz3⟩, fun D nD => lc_list (xs := qs.map V.ref) (fun i G => Same G3 G ∧ ∃ hs : List Addr, hs.length = i ∧ G D = some (.lst (hs.map V.ref)) ∧ ∀ (j : Nat) (h : Addr) (o : Int × Int × Int), hs[j]? = some h → L[j]? = some o → G h = some (.lst [.int o.1, .int o.2.1, .int o.2.2])) ⟨fun b o e => by rw [upd_ne (ne_of_none e nD)]; exact e, [], rfl, upd_same, fun j h o a => nomatch a⟩ (fun i G _ h => SqL.of (h.1 _ _ hz3)) (fun i x G hx hP => ⟨rfl, yes_of ?_⟩) (fun G4 hP => ?_)⟩
      · obtain ⟨s4, hs, h1, h2, h3⟩ := hP
        rw [List.getElem?_map] at hx
        obtain ⟨q, hq, rfl⟩ := Option.map_eq_some_iff.mp hx
        have li : i < L.length := by have := (List.getElem?_eq_some_iff.mp hq).1; omega
        have hq3 := s4 _ _ (hqt i q L[i] hq (List.getElem?_eq_getElem li))
        generalize hLo : L[i] = o at hq3
        refine ⟨_, rfl, q, _, rfl, .inr (SqT.of hq3), fun h nh => ⟨_, by rw [upd_ne (ne_of_none h2 nh)]; exact h2, by rw [List.length_map, sizeLine_eq]; omega, ?_⟩⟩
        have Dh : D ≠ h := ne_of_none h2 nh
        refine ⟨fun b u e => ?_, hs ++ [h], by rw [List.length_append, h1]; rfl, by rw [upd_same, List.map_append]; rfl, fun j h' o' a b => ?_⟩
        · rw [upd_ne (ne_of_none e nD), upd_ne (ne_of_none (s4 _ _ e) nh)]; exact s4 _ _ e
        · by_cases lt : j < hs.length
          · rw [List.getElem?_append_left lt] at a
            have e := h3 j h' o' a b
            have n1 : h' ≠ h := ne_of_none e nh
            have n2 : h' ≠ D := fun z => by
              rw [z, h2] at e
              have e := Option.some.inj e
              injection e with e
              cases hs with
              | nil => exact absurd lt (Nat.not_lt_zero _)
              | cons x xs => rw [List.map_cons] at e; injection e with e1 e2; cases e1
            rw [upd_ne n2, upd_ne n1]; exact e
          · rw [List.getElem?_append_right (by omega)] at a
            have e0 : j - hs.length = 0 := by
              have := (List.getElem?_eq_some_iff.mp a).1
              simp at this
              omega
            rw [e0] at a
            cases a
            have ej : j = i := by omega
            rw [ej, List.getElem?_eq_getElem li, hLo] at b
            cases b
            rw [upd_ne Dh.symm, upd_same]
      obtain ⟨s4, hs, h1, h2, h3⟩ := hP
      rw [List.length_map] at h1
      refine ⟨D, _, rfl, .inl ⟨SqL.of h2, fun th nth => ?_⟩⟩
      have s5 : Same G4 (upd G4 th (.tup (hs.map V.ref))) := same_new nth
      have hth : upd G4 th (.tup (hs.map V.ref)) th = some (.tup (hs.map V.ref)) := upd_same
      generalize upd G4 th (.tup (hs.map V.ref)) = G5 at *
      have s35 := s4.trans s5
      have hH5 : Stps G5 (.ref th) (some (L.map some)) := lists_stps hth (by omega) fun i q o a b => s5 _ _ (h3 i q o a b)
      have hS5 := hS.same s35
      have hp5 := s35 _ _ hp3
      have pen5 := pen3.same s35
      have tb5 := tb3.ext s35
      clear s4 s5 h1 h2 h3 hth hqt hz3 nth nD
      have c2 : 2 ≤ cs.length := by omega
      have c26 : cs.length ≤ 26 := by omega
      refine ⟨_, rfl, _, rfl, p, cs, .ref z, some (L.map some), true, rfl, .inl (SqL.of hp5), hcn, c2, c26, hS5.stps, hj3, fun G6 s6 => ⟨_, _, rfl, rfl, _, rfl, iteF ?_⟩⟩
      refine ⟨_, rfl, p, _, rfl, .inl ⟨SqL.of (s6 _ _ hp5), fun tc ntc => ?_⟩⟩
      have s7 : Same G6 (upd G6 tc (.tup (cs.map V.int))) := same_new ntc
      have htc : upd G6 tc (.tup (cs.map V.int)) tc = some (.tup (cs.map V.int)) := upd_same
      generalize upd G6 tc (.tup (cs.map V.int)) = G7 at *
      refine ⟨_, rfl, tc, cs, .ref th, some (L.map some), true, rfl, .inr (SqT.of htc), hcn, c2, c26, (hH5.same s6).same s7, hj3, fun G8 s8 => ⟨_, _, rfl, rfl, _, rfl, iteF ?_⟩⟩
      have s58 := (s6.trans s7).trans s8
      have hS8 := hS5.same s58
      have hp8 := s58 _ _ hp5
      have pen8 := pen5.same s58
      have tb8 := tb5.ext s58
      clear s6 s7 s8 s58 htc ntc hH5 hS5 hp5 pen5 tb5 hS
      refine ⟨3, rfl, by decide, by decide, ?_⟩
      refine for_range (lo := 0) (n := (3 : Int).toNat) (fun i σ G => (∃ y6 y7 y8 y9 y10 y11 y12, σ = [some (.ref a), some (.ref d), some (.int (0 + (j : Int))), some (.ref p), some (.ref z), some (.ref th), y6, y7, y8, y9, y10, y11, y12]) ∧ (∃ k, k ≤ k3 + 10 * i ∧ Pen G d l k) ∧ Tabs (TL A) G ∧ But d G8 G) ⟨⟨_, _, _, _, _, _, _, rfl⟩, ⟨k3, Nat.le_refl _, pen8⟩, tb8, fun _ _ _ e => e⟩ (fun i σ G9 hi hP => ?_) (fun σ G9 hP => ?_)
      · obtain ⟨⟨y6, y7, y8, y9, y10, y11, y12, rfl⟩, ⟨k9, hk9, pen9⟩, tb9, bt9⟩ := hP
        have i3 : i < 3 := hi
        have hS9 := hS8.but pen8 bt9
        have hp9 := bt9 _ _ pd hp8
        refine ⟨_, rfl, _, rfl, d, l, z, k9, L, rfl, pen9, hS9, by omega, by omega, by omega, fun v S G10 k10 hv hk10 pen10 bt10 => ?_⟩
        have hp10 := bt10 _ _ pd hp9
        refine ⟨_, rfl, _, rfl, p, cs, v, S, _, rfl, .inl (SqL.of hp10), hcn, c2, c26, hv, rfl, fun G11 s11 => ⟨_, rfl, ?_⟩⟩
        refine ⟨_, rfl, _, rfl, p, cs, v, S, rfl, s11 _ _ hp10, c2, c26, hv.same s11, fun G12 s12 => ⟨_, rfl, rfl, _, rfl, ?_⟩⟩
        rw [show ∀ x : V, (!decide (x = x)) = false from fun x => by simp]
        have s1012 := s11.trans s12
        exact iteF ⟨⟨_, _, _, _, _, _, _, rfl⟩, ⟨k10, by omega, pen10.same s1012⟩, (tb9.pen pen9 bt10).ext s1012, (bt9.trans bt10).trans (But.of s1012)⟩
      obtain ⟨⟨y6, y7, y8, y9, y10, y11, y12, rfl⟩, ⟨k9, hk9, pen9⟩, tb9, bt9⟩ := hP
      have hk9 : k9 ≤ k3 + 30 := hk9
      have hS9 := hS8.but pen8 bt9
      have hp9 := bt9 _ _ pd hp8
      clear hS8 hp8 pen8 tb8 bt9
      refine ⟨_, rfl, ?_⟩
      intro e1 n_e1
      have s_e1 : Same G9 (upd G9 e1 (.dK [])) := same_new n_e1
      have h_e1 : upd G9 e1 (.dK []) e1 = some (.dK []) := upd_same
      generalize upd G9 e1 (.dK []) = G10 at *
      refine ⟨(by show 0 ≤ sizeLine; decide), fun e2 n_e2 => ?_⟩
      have s_e2 : Same G10 (upd G10 e2 (.tup [])) := same_new n_e2
      have h_e2 : upd G10 e2 (.tup []) e2 = some (.tup []) := upd_same
      generalize upd G10 e2 (.tup []) = G11 at *
      refine ⟨(by show 0 ≤ sizeLine; decide), fun e3 n_e3 => ?_⟩
      have s_e3 : Same G11 (upd G11 e3 (.lst [])) := same_new n_e3
      have h_e3 : upd G11 e3 (.lst []) e3 = some (.lst []) := upd_same
      generalize upd G11 e3 (.lst []) = G12 at *
      refine ⟨(by show 6 ≤ sizeLine; decide), fun e4 n_e4 => ?_⟩
      have s_e4 : Same G12 (upd G12 e4 (.lst [V.non, V.int 7, V.str "abc", V.ref e1, V.ref e2, V.ref e3])) := same_new n_e4
      have h_e4 : upd G12 e4 (.lst [V.non, V.int 7, V.str "abc", V.ref e1, V.ref e2, V.ref e3]) e4 = some (.lst [V.non, V.int 7, V.str "abc", V.ref e1, V.ref e2, V.ref e3]) := upd_same
      generalize upd G12 e4 (.lst [V.non, V.int 7, V.str "abc", V.ref e1, V.ref e2, V.ref e3]) = G13 at *
      have s913 := ((s_e1.trans s_e2).trans s_e3).trans s_e4
      have pen13 := pen9.same s913
      obtain ⟨xd, hxd⟩ := pen13.some
      have h_e1 := s_e4 _ _ (s_e3 _ _ (s_e2 _ _ h_e1))
      have h_e2 := s_e4 _ _ (s_e3 _ _ h_e2)
      have h_e3 := s_e4 _ _ h_e3
      have d1 : e1 ≠ d := ne_of h_e1 hxd (fun z => nomatch z)
      have d2 : e2 ≠ d := ne_of h_e2 hxd (fun z => nomatch z)
      have d3 : e3 ≠ d := ne_of h_e3 hxd (fun z => nomatch z)
      refine ⟨d, l, e4, _, k9, rfl, pen13, h_e4, (by show 0 < 6; decide), (by show 6 < 1000; decide), by omega, fun v G14 k14 hv hk14 pen14 bt14 => ?_⟩
      have hv14 : ∃ S, Stps G14 v S ∧ jd cs S = false := by
        have je : jd cs (some []) = false := by show (decide ((0 : Nat) = cs.length - 1) && _) = false; rw [decide_eq_false (by omega)]; rfl
        simp only [List.mem_cons, List.not_mem_nil, or_false] at hv
        rcases hv with rfl | rfl | rfl | rfl | rfl | rfl
        · exact ⟨none, .atom .non (fun _ z => nomatch z), rfl⟩
        · exact ⟨none, .atom (.int _) (fun _ z => nomatch z), rfl⟩
        · exact ⟨none, .atom (.str _) (fun _ z => nomatch z), rfl⟩
        · exact ⟨none, .dct (bt14 _ _ d1 h_e1), rfl⟩
        · exact ⟨some [], .seq (.inr (bt14 _ _ d2 h_e2)) rfl (fun i v o a => nomatch a), je⟩
        · exact ⟨some [], .seq (.inl (bt14 _ _ d3 h_e3)) rfl (fun i v o a => nomatch a), je⟩
      obtain ⟨S, hS14, hj14⟩ := hv14
      have b914 := (But.of s913).trans bt14
      have tb14 := (tb9.ext s913).pen pen13 bt14
      have hp14 := b914 _ _ pd hp9
      have hS14b := hS9.but pen9 b914
      clear s_e1 h_e1 n_e1 s_e2 h_e2 n_e2 s_e3 h_e3 n_e3 s_e4 h_e4 n_e4 d1 d2 d3 hv hS9 hp9 tb9 b914 bt14 s913 pen9 pen13 hxd
      refine ⟨_, rfl, _, rfl, p, cs, v, S, false, rfl, .inl (SqL.of hp14), hcn, c2, c26, hS14, hj14, fun G15 s15 => ⟨_, _, rfl, rfl, _, rfl, iteF ?_⟩⟩
      have tb15 := tb14.ext s15
      have hp15 := s15 _ _ hp14
      have hS15 := hS14b.same s15
      have pen15 := pen14.same s15
      refine ⟨_, rfl, _, rfl, d, l, p, k14, cs, rfl, pen15, hp15, hcn, by omega, by omega, by omega, fun t cc xs i G16 k16 ht hcc hxl hbad hodd hk16 pen16 bt16 => ⟨t, _, rfl, SqT.of ht, rfl, _, _, rfl, _, _, rfl, rfl, ?_⟩⟩
      have tb16 := tb15.pen pen15 bt16
      have hS16 := hS15.but pen15 bt16
      refine ⟨tb16, fun H1 e1 T1 E1 Qn hM hB => ?_⟩
      refine ⟨_, rfl, _, rfl, cc, xs, .ref z, some (L.map some), rfl, .inl (SqL.of (e1 _ _ hcc (fun _ z => nomatch z))), fun x hx => ?_, (hS16.ext e1).stps, fun _ ms em hm => ?_, fun n => absurd (by omega) n, fun _ i2 hb2 d2 G17 s17 hd2 => ?_⟩
      · exact (hodd x hx).ext e1
      · subst em; exact (hbad.no hm).elim
      · cases hbad.uniq hb2
        refine hB d2 G17 _ hd2 fun t2 G18 s18 ht2 => ?_
        refine ⟨_, rfl, (by show 2 ≤ sizeLine; decide), fun t3 nt3 => ?_⟩
        refine ⟨.tuple [.str "count", .int (i : Int)], .tuple [.str "count", .int (i : Int)], .tup (SqT.of (same_new nt3 _ _ ht2)) (.cons (.str _) (.cons (.int _) .nil)), .tup (SqT.of upd_same) (.cons (.str _) (.cons (.int _) .nil)), shaped_count _, shaped_count _, _, rfl, ?_⟩
        rw [eqv_count]
        have sF := (s17.trans s18).trans (same_new (o := .tup [V.str "count", V.int (i : Int)]) nt3)
        exact iteF ⟨⟨_, _, _, _, _, _, _, _, _, _, _, rfl⟩, ⟨k16, by omega, (pen16.ext e1).same sF⟩, T1.ext sF⟩
    · obtain ⟨⟨z2, z3, z4, z5, z6, z7, z8, z9, z10, z11, z12, rfl⟩, ⟨k, hk, pen⟩, tb⟩ := hP
      have hk : k ≤ 1200 := hk
      refine ⟨_, rfl, (by show 3 ≤ sizeLine; decide), fun e n_e => ?_⟩
      have s_e : Same G (upd G e (.lst [V.int 0, V.int 1, V.int 27])) := same_new n_e
      have h_e : upd G e (.lst [V.int 0, V.int 1, V.int 27]) e = some (.lst [V.int 0, V.int 1, V.int 27]) := upd_same
      generalize upd G e (.lst [V.int 0, V.int 1, V.int 27]) = G1 at *
      refine ⟨d, l, e, _, k, rfl, pen.same s_e, h_e, (by show 0 < 3; decide), (by show 3 < 1000; decide), by omega, fun v G2 k2 hv hk2 pen2 bt2 => ?_⟩
      have tb2 := (tb.ext s_e).pen (pen.same s_e) bt2
      obtain ⟨m, rfl, hm⟩ : ∃ m : Nat, v = .int (m : Int) ∧ ¬ (2 ≤ m ∧ m ≤ 26) ∧ m ≤ 27 := by
        simp only [List.mem_cons, List.not_mem_nil, or_false] at hv
        rcases hv with rfl | rfl | rfl
        · exact ⟨0, rfl, by decide, by decide⟩
        · exact ⟨1, rfl, by decide, by decide⟩
        · exact ⟨27, rfl, by decide, by decide⟩
      refine ⟨tb2, fun H1 e1 T1 E1 Qn hM hB => ?_⟩
      refine ⟨(by show 1 ≤ sizeLine; decide), fun q nq => ⟨_, rfl, q, (m : Int), _, rfl, rfl, upd_same, by omega, by omega, ?_, fun r nr => ?_⟩⟩
      · show 1 * m ≤ sizeLine; rw [sizeLine_eq]; omega
      rw [show (m : Int).toNat = m from rfl, rep_flat]
      refine ⟨(by show 0 ≤ sizeLine; decide), fun f nf => ?_⟩
      have hr1 : upd (upd (upd H1 q (.lst [V.int 1])) r (.lst (List.replicate m (V.int 1)))) f (.lst []) r = some (.lst (List.replicate m (V.int 1))) := by rw [upd_ne (ne_of_none upd_same nf)]; exact upd_same
      have hf1 : upd (upd (upd H1 q (.lst [V.int 1])) r (.lst (List.replicate m (V.int 1)))) f (.lst []) f = some (.lst []) := upd_same
      generalize upd (upd (upd H1 q (.lst [V.int 1])) r (.lst (List.replicate m (V.int 1)))) f (.lst []) = G3 at *
      have ln : (List.replicate m (V.int 1)).length = m := List.length_replicate ..
      refine ⟨r, _, .ref f, some [], rfl, .inl (SqL.of hr1), fun x hx => ?_, .seq (.inl hf1) rfl (fun i v o a => nomatch a), fun h => absurd (ln ▸ h) hm.1, fun _ d2 G4 s4 hd2 => ?_, fun h => absurd (ln ▸ h) hm.1⟩
      · rw [(List.mem_replicate.mp hx).2]; exact .int 1
      rw [ln] at hd2
      refine hM d2 G4 (m : Int) hd2 fun t2 G5 s5 ht2 => ?_
      refine ⟨_, rfl, (by show 3 ≤ sizeLine; decide), fun t3 nt3 => ?_⟩
      refine ⟨.tuple [.str "signs", .int (m : Int), .int 26], .tuple [.str "signs", .int (m : Int), .int 26], .tup (SqT.of (same_new nt3 _ _ ht2)) (.cons (.str _) (.cons (.int _) (.cons (.int _) .nil))), .tup (SqT.of upd_same) (.cons (.str _) (.cons (.int _) (.cons (.int _) .nil))), shaped_signs _ _, shaped_signs _ _, ?_⟩
      rw [eqv_signs]
      exact kq _
end
end Z

set_option Elab.async false
set_option linter.all false
set_option maxRecDepth 100000
set_option maxHeartbeats 8000000
/-! what the top has written, gathered -/
namespace Z
open PySem L2 XV KJ LamX PyProof.Rows
/-- of a class of the errors: all that is asked of it but its object and its __init__'s -/
def errB (K : PySem.W.Frag) (C fI : Addr) (fs : List Str) : Bool :=
  PySem.W.findIn K (.ref C) "__setattr__" == some (some (.builtin "object.__setattr__")) && PySem.W.subIn K (.ref C) (.type "BaseException") == some true && PySem.W.typeIn K (.ref C) == some (.type "type") && PySem.W.keepIn K (.ref C) &&
  PySem.W.findIn K (.ref C) "__init__" == some (some (.ref fI)) && PySem.W.typeIn K (.ref fI) == some (.type "function") && PySem.W.findIn K (.ref C) "__getattribute__" == some (some (.builtin "BaseException.__getattribute__")) &&
  PySem.W.findIn K (.ref C) "__getattr__" == some none && PySem.W.hasDictIn K C && PySem.W.findIn K (.ref C) "__class__" == some (some (.builtin "object.__class__")) &&
  PySem.W.specialIn K (.builtin "object.__class__") "__get__" == some (some (.builtin "getset_descriptor.__get__")) && PySem.W.takesIn K (.builtin "object.__class__") == some true && PySem.W.mroIn K C (.type "object") == some true &&
  fs.all fun f => PySem.W.findIn K (.ref C) f == some none
theorem ec_mk {K : PySem.W.Frag} {mg : Str → Option Value} {h : Heap} (X : K.In h) (G : h.Ns mainGlobals mg) {cj C fI N : Addr} {x qual nm q : Str} {st : Stmt} {fs : List Str} {bs : List Value} {sn : List Str} {sub : List Value} {ab : Bool} {col : Option Bool} {dd : Option Addr} {m0 m1 m2 m3 m5 : Option Value}
    {oc kV doc pm cd ct : Value} {od an : Option Addr} {sl : Array (Option Value)}
    (aC : PySem.W.nsIn K mainGlobals x = some (some (.ref C)))
    (xL : K.lookup C = some (excClassObj nm q C N bs [.ref cj, .type "ValueError", .type "Exception", .type "BaseException", .type "object"] true sn sub ab col dd m0 m1 m2 m3 m5 "ValueError.__new__"))
    (eB : errB K C fI fs = true)
    (lI : K.lookup fI = some ⟨oc, od, .func (PySem.W.fnOf "__init__" qual (defArgs st) (defBody st) (defScope st) .none kV doc pm an cd ct), sl⟩) (cI : PySem.W.codeIn K cd qual = true) (kI : PySem.W.keepIn K (.ref fI) = true)
    (hb : KBn K (PySem.W.fnOf "__init__" qual (defArgs st) (defBody st) (defScope st) .none kV doc pm an cd ct) ("self" :: fs) (fs.length + 1) [] (fun us _ => us) (fun vs _ => vs))
    (hk : Binds K (PySem.W.fnOf "__init__" qual (defArgs st) (defBody st) (defScope st) .none kV doc pm an cd ct) ("self" :: fs) []) :
    Ec K mg cj C fI x qual st (PySem.W.fnOf "__init__" qual (defArgs st) (defBody st) (defScope st) .none kV doc pm an cd ct) fs := by
  unfold errB at eB
  simp only [Bool.and_eq_true, beq_iff_eq, List.all_eq_true] at eB
  obtain ⟨⟨⟨⟨⟨⟨⟨⟨⟨⟨⟨⟨⟨e1, e2⟩, e3⟩, e4⟩, e5⟩, e6⟩, e7⟩, e8⟩, e9⟩, e10⟩, e11⟩, e12⟩, e13⟩, e14⟩ := eB
  exact { E := ⟨⟨⟨nm, q, N, bs, _, sn, sub, ab, col, dd, m0, m1, m2, m3, m5, xL, by rfl⟩, e1, e2, e3, e4⟩, e5, e6⟩, R := ⟨e7, e8, e2, e9, e10, e11, e12, e13⟩, F := fun_mk lI cI kI, g := PySem.W.mg_of X G aC,
          m := ⟨_, by unfold PySem.W.clsIn; rw [xL] <;> rfl, rfl⟩, ty := e3, b := hb, bb := hk, no := e14 }

section
variable {l : PySem.W.OpenLaw} {q : Program} {w : World} {K : PySem.W.Frag} {mg : Str → Option Value} {h : Heap} {fa : Addr}
theorem all_mk (TF : TabFact q K h) (X : K.In h) (G : h.Ns mainGlobals mg) (hfa : mg "law" = some (.ref fa))
    {cj : Addr}
    {f_isint : Addr} {oc_isint kV_isint doc_isint pm_isint cd_isint ct_isint : Value} {od_isint an_isint : Option Addr} {sl_isint : Array (Option Value)}
    {f_kept : Addr} {oc_kept kV_kept doc_kept pm_kept cd_kept ct_kept : Value} {od_kept an_kept : Option Addr} {sl_kept : Array (Option Value)}
    {f_checkmany : Addr} {oc_checkmany kV_checkmany doc_checkmany pm_checkmany cd_checkmany ct_checkmany : Value} {od_checkmany an_checkmany : Option Addr} {sl_checkmany : Array (Option Value)}
    {f_checkcounts : Addr} {oc_checkcounts kV_checkcounts doc_checkcounts pm_checkcounts cd_checkcounts ct_checkcounts : Value} {od_checkcounts an_checkcounts : Option Addr} {sl_checkcounts : Array (Option Value)}
    {f_istriple : Addr} {oc_istriple kV_istriple doc_istriple pm_istriple cd_istriple ct_istriple : Value} {od_istriple an_istriple : Option Addr} {sl_istriple : Array (Option Value)}
    {f_canjoin : Addr} {oc_canjoin kV_canjoin doc_canjoin pm_canjoin cd_canjoin ct_canjoin : Value} {od_canjoin an_canjoin : Option Addr} {sl_canjoin : Array (Option Value)}
    {f_isjoining : Addr} {oc_isjoining kV_isjoining doc_isjoining pm_isjoining cd_isjoining ct_isjoining : Value} {od_isjoining an_isjoining : Option Addr} {sl_isjoining : Array (Option Value)}
    {f_penof : Addr} {oc_penof kV_penof doc_penof pm_penof cd_penof ct_penof : Value} {od_penof an_penof : Option Addr} {sl_penof : Array (Option Value)}
    {f_draw : Addr} {oc_draw kV_draw doc_draw pm_draw cd_draw ct_draw : Value} {od_draw an_draw : Option Addr} {sl_draw : Array (Option Value)}
    {f_pick : Addr} {oc_pick kV_pick doc_pick pm_pick cd_pick ct_pick : Value} {od_pick an_pick : Option Addr} {sl_pick : Array (Option Value)}
    {f_somecounts : Addr} {oc_somecounts kV_somecounts doc_somecounts pm_somecounts cd_somecounts ct_somecounts : Value} {od_somecounts an_somecounts : Option Addr} {sl_somecounts : Array (Option Value)}
    {f_oddcounts : Addr} {oc_oddcounts kV_oddcounts doc_oddcounts pm_oddcounts cd_oddcounts ct_oddcounts : Value} {od_oddcounts an_oddcounts : Option Addr} {sl_oddcounts : Array (Option Value)}
    {f_met : Addr} {oc_met kV_met doc_met pm_met cd_met ct_met : Value} {od_met an_met : Option Addr} {sl_met : Array (Option Value)}
    {f_drawn : Addr} {oc_drawn kV_drawn doc_drawn pm_drawn cd_drawn ct_drawn : Value} {od_drawn an_drawn : Option Addr} {sl_drawn : Array (Option Value)}
    {f_isnumber : Addr} {oc_isnumber kV_isnumber doc_isnumber pm_isnumber cd_isnumber ct_isnumber : Value} {od_isnumber an_isnumber : Option Addr} {sl_isnumber : Array (Option Value)}
    {f_isright : Addr} {oc_isright kV_isright doc_isright pm_isright cd_isright ct_isright : Value} {od_isright an_isright : Option Addr} {sl_isright : Array (Option Value)}
    {f_bent : Addr} {oc_bent kV_bent doc_bent pm_bent cd_bent ct_bent : Value} {od_bent an_bent : Option Addr} {sl_bent : Array (Option Value)}
    {f_law : Addr} {oc_law kV_law doc_law pm_law ct_law : Value} {od_law an_law : Option Addr} {sl_law : Array (Option Value)} {C_law P_law : Addr}
    {e1_law : Value} {e2_law : Option Addr} {e3_law : Array Value} {e4_law : Array (Option Value)}
    {C_TooMany I_TooMany N_TooMany : Addr} {nm_TooMany q_TooMany : Str} {bs_TooMany : List Value} {sn_TooMany : List Str} {sub_TooMany : List Value} {ab_TooMany : Bool} {col_TooMany : Option Bool} {dd_TooMany : Option Addr} {m0_TooMany m1_TooMany m2_TooMany m3_TooMany m5_TooMany : Option Value} {oc_TooMany kV_TooMany doc_TooMany pm_TooMany cd_TooMany ct_TooMany : Value} {od_TooMany an_TooMany : Option Addr} {sl_TooMany : Array (Option Value)}
    {C_BadCount I_BadCount N_BadCount : Addr} {nm_BadCount q_BadCount : Str} {bs_BadCount : List Value} {sn_BadCount : List Str} {sub_BadCount : List Value} {ab_BadCount : Bool} {col_BadCount : Option Bool} {dd_BadCount : Option Addr} {m0_BadCount m1_BadCount m2_BadCount m3_BadCount m5_BadCount : Option Value} {oc_BadCount kV_BadCount doc_BadCount pm_BadCount cd_BadCount ct_BadCount : Value} {od_BadCount an_BadCount : Option Addr} {sl_BadCount : Array (Option Value)}
    {tk_FEWEST_SIGNS : Tok}
    {tk_MOST_SIGNS : Tok}
    (a_isint : PySem.W.nsIn K mainGlobals "is_int" = some (some (.ref f_isint)))
    (l_isint : K.lookup f_isint = some ⟨oc_isint, od_isint, .func (PySem.W.fnOf "is_int" "is_int" (defArgs s_isint) (defBody s_isint) (defScope s_isint) .none kV_isint doc_isint pm_isint an_isint cd_isint ct_isint), sl_isint⟩)
    (c_isint : PySem.W.codeIn K cd_isint "is_int" = true)
    (k_isint : PySem.W.keepIn K (.ref f_isint) = true)
    (a_kept : PySem.W.nsIn K mainGlobals "kept" = some (some (.ref f_kept)))
    (l_kept : K.lookup f_kept = some ⟨oc_kept, od_kept, .func (PySem.W.fnOf "kept" "kept" (defArgs s_kept) (defBody s_kept) (defScope s_kept) .none kV_kept doc_kept pm_kept an_kept cd_kept ct_kept), sl_kept⟩)
    (c_kept : PySem.W.codeIn K cd_kept "kept" = true)
    (k_kept : PySem.W.keepIn K (.ref f_kept) = true)
    (a_checkmany : PySem.W.nsIn K mainGlobals "check_many" = some (some (.ref f_checkmany)))
    (l_checkmany : K.lookup f_checkmany = some ⟨oc_checkmany, od_checkmany, .func (PySem.W.fnOf "check_many" "check_many" (defArgs s_checkmany) (defBody s_checkmany) (defScope s_checkmany) .none kV_checkmany doc_checkmany pm_checkmany an_checkmany cd_checkmany ct_checkmany), sl_checkmany⟩)
    (c_checkmany : PySem.W.codeIn K cd_checkmany "check_many" = true)
    (k_checkmany : PySem.W.keepIn K (.ref f_checkmany) = true)
    (a_checkcounts : PySem.W.nsIn K mainGlobals "check_counts" = some (some (.ref f_checkcounts)))
    (l_checkcounts : K.lookup f_checkcounts = some ⟨oc_checkcounts, od_checkcounts, .func (PySem.W.fnOf "check_counts" "check_counts" (defArgs s_checkcounts) (defBody s_checkcounts) (defScope s_checkcounts) .none kV_checkcounts doc_checkcounts pm_checkcounts an_checkcounts cd_checkcounts ct_checkcounts), sl_checkcounts⟩)
    (c_checkcounts : PySem.W.codeIn K cd_checkcounts "check_counts" = true)
    (k_checkcounts : PySem.W.keepIn K (.ref f_checkcounts) = true)
    (a_istriple : PySem.W.nsIn K mainGlobals "is_triple" = some (some (.ref f_istriple)))
    (l_istriple : K.lookup f_istriple = some ⟨oc_istriple, od_istriple, .func (PySem.W.fnOf "is_triple" "is_triple" (defArgs s_istriple) (defBody s_istriple) (defScope s_istriple) .none kV_istriple doc_istriple pm_istriple an_istriple cd_istriple ct_istriple), sl_istriple⟩)
    (c_istriple : PySem.W.codeIn K cd_istriple "is_triple" = true)
    (k_istriple : PySem.W.keepIn K (.ref f_istriple) = true)
    (a_canjoin : PySem.W.nsIn K mainGlobals "can_join" = some (some (.ref f_canjoin)))
    (l_canjoin : K.lookup f_canjoin = some ⟨oc_canjoin, od_canjoin, .func (PySem.W.fnOf "can_join" "can_join" (defArgs s_canjoin) (defBody s_canjoin) (defScope s_canjoin) .none kV_canjoin doc_canjoin pm_canjoin an_canjoin cd_canjoin ct_canjoin), sl_canjoin⟩)
    (c_canjoin : PySem.W.codeIn K cd_canjoin "can_join" = true)
    (k_canjoin : PySem.W.keepIn K (.ref f_canjoin) = true)
    (a_isjoining : PySem.W.nsIn K mainGlobals "is_joining" = some (some (.ref f_isjoining)))
    (l_isjoining : K.lookup f_isjoining = some ⟨oc_isjoining, od_isjoining, .func (PySem.W.fnOf "is_joining" "is_joining" (defArgs s_isjoining) (defBody s_isjoining) (defScope s_isjoining) .none kV_isjoining doc_isjoining pm_isjoining an_isjoining cd_isjoining ct_isjoining), sl_isjoining⟩)
    (c_isjoining : PySem.W.codeIn K cd_isjoining "is_joining" = true)
    (k_isjoining : PySem.W.keepIn K (.ref f_isjoining) = true)
    (a_penof : PySem.W.nsIn K mainGlobals "_law_pen_of" = some (some (.ref f_penof)))
    (l_penof : K.lookup f_penof = some ⟨oc_penof, od_penof, .func (PySem.W.fnOf "_law_pen_of" "_law_pen_of" (defArgs s_penof) (defBody s_penof) (defScope s_penof) .none kV_penof doc_penof pm_penof an_penof cd_penof ct_penof), sl_penof⟩)
    (c_penof : PySem.W.codeIn K cd_penof "_law_pen_of" = true)
    (k_penof : PySem.W.keepIn K (.ref f_penof) = true)
    (a_draw : PySem.W.nsIn K mainGlobals "_law_draw" = some (some (.ref f_draw)))
    (l_draw : K.lookup f_draw = some ⟨oc_draw, od_draw, .func (PySem.W.fnOf "_law_draw" "_law_draw" (defArgs s_draw) (defBody s_draw) (defScope s_draw) .none kV_draw doc_draw pm_draw an_draw cd_draw ct_draw), sl_draw⟩)
    (c_draw : PySem.W.codeIn K cd_draw "_law_draw" = true)
    (k_draw : PySem.W.keepIn K (.ref f_draw) = true)
    (a_pick : PySem.W.nsIn K mainGlobals "_law_pick" = some (some (.ref f_pick)))
    (l_pick : K.lookup f_pick = some ⟨oc_pick, od_pick, .func (PySem.W.fnOf "_law_pick" "_law_pick" (defArgs s_pick) (defBody s_pick) (defScope s_pick) .none kV_pick doc_pick pm_pick an_pick cd_pick ct_pick), sl_pick⟩)
    (c_pick : PySem.W.codeIn K cd_pick "_law_pick" = true)
    (k_pick : PySem.W.keepIn K (.ref f_pick) = true)
    (a_somecounts : PySem.W.nsIn K mainGlobals "_law_some_counts" = some (some (.ref f_somecounts)))
    (l_somecounts : K.lookup f_somecounts = some ⟨oc_somecounts, od_somecounts, .func (PySem.W.fnOf "_law_some_counts" "_law_some_counts" (defArgs s_somecounts) (defBody s_somecounts) (defScope s_somecounts) .none kV_somecounts doc_somecounts pm_somecounts an_somecounts cd_somecounts ct_somecounts), sl_somecounts⟩)
    (c_somecounts : PySem.W.codeIn K cd_somecounts "_law_some_counts" = true)
    (k_somecounts : PySem.W.keepIn K (.ref f_somecounts) = true)
    (a_oddcounts : PySem.W.nsIn K mainGlobals "_law_odd_counts" = some (some (.ref f_oddcounts)))
    (l_oddcounts : K.lookup f_oddcounts = some ⟨oc_oddcounts, od_oddcounts, .func (PySem.W.fnOf "_law_odd_counts" "_law_odd_counts" (defArgs s_oddcounts) (defBody s_oddcounts) (defScope s_oddcounts) .none kV_oddcounts doc_oddcounts pm_oddcounts an_oddcounts cd_oddcounts ct_oddcounts), sl_oddcounts⟩)
    (c_oddcounts : PySem.W.codeIn K cd_oddcounts "_law_odd_counts" = true)
    (k_oddcounts : PySem.W.keepIn K (.ref f_oddcounts) = true)
    (a_met : PySem.W.nsIn K mainGlobals "_law_met" = some (some (.ref f_met)))
    (l_met : K.lookup f_met = some ⟨oc_met, od_met, .func (PySem.W.fnOf "_law_met" "_law_met" (defArgs s_met) (defBody s_met) (defScope s_met) .none kV_met doc_met pm_met an_met cd_met ct_met), sl_met⟩)
    (c_met : PySem.W.codeIn K cd_met "_law_met" = true)
    (k_met : PySem.W.keepIn K (.ref f_met) = true)
    (a_drawn : PySem.W.nsIn K mainGlobals "_law_drawn" = some (some (.ref f_drawn)))
    (l_drawn : K.lookup f_drawn = some ⟨oc_drawn, od_drawn, .func (PySem.W.fnOf "_law_drawn" "_law_drawn" (defArgs s_drawn) (defBody s_drawn) (defScope s_drawn) .none kV_drawn doc_drawn pm_drawn an_drawn cd_drawn ct_drawn), sl_drawn⟩)
    (c_drawn : PySem.W.codeIn K cd_drawn "_law_drawn" = true)
    (k_drawn : PySem.W.keepIn K (.ref f_drawn) = true)
    (a_isnumber : PySem.W.nsIn K mainGlobals "_law_is_number" = some (some (.ref f_isnumber)))
    (l_isnumber : K.lookup f_isnumber = some ⟨oc_isnumber, od_isnumber, .func (PySem.W.fnOf "_law_is_number" "_law_is_number" (defArgs s_isnumber) (defBody s_isnumber) (defScope s_isnumber) .none kV_isnumber doc_isnumber pm_isnumber an_isnumber cd_isnumber ct_isnumber), sl_isnumber⟩)
    (c_isnumber : PySem.W.codeIn K cd_isnumber "_law_is_number" = true)
    (k_isnumber : PySem.W.keepIn K (.ref f_isnumber) = true)
    (a_isright : PySem.W.nsIn K mainGlobals "_law_is_right" = some (some (.ref f_isright)))
    (l_isright : K.lookup f_isright = some ⟨oc_isright, od_isright, .func (PySem.W.fnOf "_law_is_right" "_law_is_right" (defArgs s_isright) (defBody s_isright) (defScope s_isright) .none kV_isright doc_isright pm_isright an_isright cd_isright ct_isright), sl_isright⟩)
    (c_isright : PySem.W.codeIn K cd_isright "_law_is_right" = true)
    (k_isright : PySem.W.keepIn K (.ref f_isright) = true)
    (a_bent : PySem.W.nsIn K mainGlobals "_law_bent" = some (some (.ref f_bent)))
    (l_bent : K.lookup f_bent = some ⟨oc_bent, od_bent, .func (PySem.W.fnOf "_law_bent" "_law_bent" (defArgs s_bent) (defBody s_bent) (defScope s_bent) .none kV_bent doc_bent pm_bent an_bent cd_bent ct_bent), sl_bent⟩)
    (c_bent : PySem.W.codeIn K cd_bent "_law_bent" = true)
    (k_bent : PySem.W.keepIn K (.ref f_bent) = true)
    (a_law : PySem.W.nsIn K mainGlobals "law" = some (some (.ref f_law)))
    (l_law : K.lookup f_law = some ⟨oc_law, od_law, .func (PySem.W.fnOf "law" "law" (defArgs s_law) (defBody s_law) (defScope s_law) .none kV_law doc_law pm_law an_law (.ref C_law) ct_law), sl_law⟩)
    (c_law : PySem.W.codeIn K (.ref C_law) "law" = true)
    (k_law : PySem.W.keepIn K (.ref f_law) = true)
    (e_law : K.lookup C_law = some ⟨e1_law, e2_law, .fields e3_law, e4_law⟩)
    (v_law : e3_law[11]? = some (.ref P_law))
    (r_law : ((recsOf q).find? fun r => r.name == ("law" : Str)).isSome = true)
    (n_law : K.lookup P_law = none)
    (aJ : PySem.W.nsIn K mainGlobals "JoinsError" = some (some (.ref cj)))
    (rJ : PySem.W.readsIn K cj (.type "type") = true)
    (sJ : PySem.W.specialIn K (.ref cj) "__getattribute__" = some (some (.builtin "type.__getattribute__")))
    (vJ : PySem.W.findCls K (.ref cj) (.type "type") "__init__" = some (.val (.builtin "ValueError.__init__")))
    (iJ : PySem.W.isClsIn K cj = true)
    (tJ : PySem.W.typeIn K (.ref cj) = some (.type "type"))
    (aC_TooMany : PySem.W.nsIn K mainGlobals "TooMany" = some (some (.ref C_TooMany)))
    (xL_TooMany : K.lookup C_TooMany = some (excClassObj nm_TooMany q_TooMany C_TooMany N_TooMany bs_TooMany [.ref cj, .type "ValueError", .type "Exception", .type "BaseException", .type "object"] true sn_TooMany sub_TooMany ab_TooMany col_TooMany dd_TooMany m0_TooMany m1_TooMany m2_TooMany m3_TooMany m5_TooMany "ValueError.__new__"))
    (iI_TooMany : PySem.W.findIn K (.ref C_TooMany) "__init__" = some (some (.ref I_TooMany)))
    (eB_TooMany : errB K C_TooMany I_TooMany ["what", "many", "most"] = true)
    (lI_TooMany : K.lookup I_TooMany = some ⟨oc_TooMany, od_TooMany, .func (PySem.W.fnOf "__init__" "TooMany.__init__" (defArgs s_TooMany) (defBody s_TooMany) (defScope s_TooMany) .none kV_TooMany doc_TooMany pm_TooMany an_TooMany cd_TooMany ct_TooMany), sl_TooMany⟩)
    (cI_TooMany : PySem.W.codeIn K cd_TooMany "TooMany.__init__" = true)
    (kI_TooMany : PySem.W.keepIn K (.ref I_TooMany) = true)
    (aC_BadCount : PySem.W.nsIn K mainGlobals "BadCount" = some (some (.ref C_BadCount)))
    (xL_BadCount : K.lookup C_BadCount = some (excClassObj nm_BadCount q_BadCount C_BadCount N_BadCount bs_BadCount [.ref cj, .type "ValueError", .type "Exception", .type "BaseException", .type "object"] true sn_BadCount sub_BadCount ab_BadCount col_BadCount dd_BadCount m0_BadCount m1_BadCount m2_BadCount m3_BadCount m5_BadCount "ValueError.__new__"))
    (iI_BadCount : PySem.W.findIn K (.ref C_BadCount) "__init__" = some (some (.ref I_BadCount)))
    (eB_BadCount : errB K C_BadCount I_BadCount ["index"] = true)
    (lI_BadCount : K.lookup I_BadCount = some ⟨oc_BadCount, od_BadCount, .func (PySem.W.fnOf "__init__" "BadCount.__init__" (defArgs s_BadCount) (defBody s_BadCount) (defScope s_BadCount) .none kV_BadCount doc_BadCount pm_BadCount an_BadCount cd_BadCount ct_BadCount), sl_BadCount⟩)
    (cI_BadCount : PySem.W.codeIn K cd_BadCount "BadCount.__init__" = true)
    (kI_BadCount : PySem.W.keepIn K (.ref I_BadCount) = true)
    (hne : C_TooMany ≠ C_BadCount)
    (hnj : C_TooMany ≠ cj)
    (q_FEWEST_SIGNS : PySem.W.nsIn K mainGlobals "FEWEST_SIGNS" = some (some (.int (2) tk_FEWEST_SIGNS)))
    (q_MOST_SIGNS : PySem.W.nsIn K mainGlobals "MOST_SIGNS" = some (some (.int (26) tk_MOST_SIGNS)))
    (z_ValueError : PySem.W.nsIn K mainGlobals "ValueError" = some none)
    (z_abs : PySem.W.nsIn K mainGlobals "abs" = some none)
    (z_all : PySem.W.nsIn K mainGlobals "all" = some none)
    (z_any : PySem.W.nsIn K mainGlobals "any" = some none)
    (z_bool : PySem.W.nsIn K mainGlobals "bool" = some none)
    (z_dict : PySem.W.nsIn K mainGlobals "dict" = some none)
    (z_enumerate : PySem.W.nsIn K mainGlobals "enumerate" = some none)
    (z_int : PySem.W.nsIn K mainGlobals "int" = some none)
    (z_isinstance : PySem.W.nsIn K mainGlobals "isinstance" = some none)
    (z_len : PySem.W.nsIn K mainGlobals "len" = some none)
    (z_list : PySem.W.nsIn K mainGlobals "list" = some none)
    (z_max : PySem.W.nsIn K mainGlobals "max" = some none)
    (z_min : PySem.W.nsIn K mainGlobals "min" = some none)
    (z_range : PySem.W.nsIn K mainGlobals "range" = some none)
    (z_repr : PySem.W.nsIn K mainGlobals "repr" = some none)
    (z_tuple : PySem.W.nsIn K mainGlobals "tuple" = some none) :
    LawAtS l w K CX0 10 63 "_law_script" mg fa h := by
  have e := hfa.symm.trans (PySem.W.mg_of X G a_law)
  cases e
  have t_law : PySem.W.tabIn K "law" = some (C_law, P_law) := tab_mk a_law l_law rfl e_law v_law
  have T : Txt K mg { cj := cj, a_isint := f_isint, d_isint := PySem.W.fnOf "is_int" "is_int" (defArgs s_isint) (defBody s_isint) (defScope s_isint) .none kV_isint doc_isint pm_isint an_isint cd_isint ct_isint, a_kept := f_kept, d_kept := PySem.W.fnOf "kept" "kept" (defArgs s_kept) (defBody s_kept) (defScope s_kept) .none kV_kept doc_kept pm_kept an_kept cd_kept ct_kept, a_checkmany := f_checkmany, d_checkmany := PySem.W.fnOf "check_many" "check_many" (defArgs s_checkmany) (defBody s_checkmany) (defScope s_checkmany) .none kV_checkmany doc_checkmany pm_checkmany an_checkmany cd_checkmany ct_checkmany, a_checkcounts := f_checkcounts, d_checkcounts := PySem.W.fnOf "check_counts" "check_counts" (defArgs s_checkcounts) (defBody s_checkcounts) (defScope s_checkcounts) .none kV_checkcounts doc_checkcounts pm_checkcounts an_checkcounts cd_checkcounts ct_checkcounts, a_istriple := f_istriple, d_istriple := PySem.W.fnOf "is_triple" "is_triple" (defArgs s_istriple) (defBody s_istriple) (defScope s_istriple) .none kV_istriple doc_istriple pm_istriple an_istriple cd_istriple ct_istriple, a_canjoin := f_canjoin, d_canjoin := PySem.W.fnOf "can_join" "can_join" (defArgs s_canjoin) (defBody s_canjoin) (defScope s_canjoin) .none kV_canjoin doc_canjoin pm_canjoin an_canjoin cd_canjoin ct_canjoin, a_isjoining := f_isjoining, d_isjoining := PySem.W.fnOf "is_joining" "is_joining" (defArgs s_isjoining) (defBody s_isjoining) (defScope s_isjoining) .none kV_isjoining doc_isjoining pm_isjoining an_isjoining cd_isjoining ct_isjoining, a_penof := f_penof, d_penof := PySem.W.fnOf "_law_pen_of" "_law_pen_of" (defArgs s_penof) (defBody s_penof) (defScope s_penof) .none kV_penof doc_penof pm_penof an_penof cd_penof ct_penof, a_draw := f_draw, d_draw := PySem.W.fnOf "_law_draw" "_law_draw" (defArgs s_draw) (defBody s_draw) (defScope s_draw) .none kV_draw doc_draw pm_draw an_draw cd_draw ct_draw, a_pick := f_pick, d_pick := PySem.W.fnOf "_law_pick" "_law_pick" (defArgs s_pick) (defBody s_pick) (defScope s_pick) .none kV_pick doc_pick pm_pick an_pick cd_pick ct_pick, a_somecounts := f_somecounts, d_somecounts := PySem.W.fnOf "_law_some_counts" "_law_some_counts" (defArgs s_somecounts) (defBody s_somecounts) (defScope s_somecounts) .none kV_somecounts doc_somecounts pm_somecounts an_somecounts cd_somecounts ct_somecounts, a_oddcounts := f_oddcounts, d_oddcounts := PySem.W.fnOf "_law_odd_counts" "_law_odd_counts" (defArgs s_oddcounts) (defBody s_oddcounts) (defScope s_oddcounts) .none kV_oddcounts doc_oddcounts pm_oddcounts an_oddcounts cd_oddcounts ct_oddcounts, a_met := f_met, d_met := PySem.W.fnOf "_law_met" "_law_met" (defArgs s_met) (defBody s_met) (defScope s_met) .none kV_met doc_met pm_met an_met cd_met ct_met, a_drawn := f_drawn, d_drawn := PySem.W.fnOf "_law_drawn" "_law_drawn" (defArgs s_drawn) (defBody s_drawn) (defScope s_drawn) .none kV_drawn doc_drawn pm_drawn an_drawn cd_drawn ct_drawn, a_isnumber := f_isnumber, d_isnumber := PySem.W.fnOf "_law_is_number" "_law_is_number" (defArgs s_isnumber) (defBody s_isnumber) (defScope s_isnumber) .none kV_isnumber doc_isnumber pm_isnumber an_isnumber cd_isnumber ct_isnumber, a_isright := f_isright, d_isright := PySem.W.fnOf "_law_is_right" "_law_is_right" (defArgs s_isright) (defBody s_isright) (defScope s_isright) .none kV_isright doc_isright pm_isright an_isright cd_isright ct_isright, a_bent := f_bent, d_bent := PySem.W.fnOf "_law_bent" "_law_bent" (defArgs s_bent) (defBody s_bent) (defScope s_bent) .none kV_bent doc_bent pm_bent an_bent cd_bent ct_bent, a_law := fa, d_law := PySem.W.fnOf "law" "law" (defArgs s_law) (defBody s_law) (defScope s_law) .none kV_law doc_law pm_law an_law (.ref C_law) ct_law, k_law := C_law, p_law := P_law, c_TooMany := C_TooMany, i_TooMany := I_TooMany, d_TooMany := PySem.W.fnOf "__init__" "TooMany.__init__" (defArgs s_TooMany) (defBody s_TooMany) (defScope s_TooMany) .none kV_TooMany doc_TooMany pm_TooMany an_TooMany cd_TooMany ct_TooMany, c_BadCount := C_BadCount, i_BadCount := I_BadCount, d_BadCount := PySem.W.fnOf "__init__" "BadCount.__init__" (defArgs s_BadCount) (defBody s_BadCount) (defScope s_BadCount) .none kV_BadCount doc_BadCount pm_BadCount an_BadCount cd_BadCount ct_BadCount } := { F_isint := (fun_mk l_isint c_isint k_isint), g_isint := (PySem.W.mg_of X G a_isint), b_isint := ((fun_mk (st := s_isint) l_isint c_isint k_isint).binds fun _ _ _ _ _ _ us hl => match us, hl with | [_], _ => rfl), F_kept := (fun_mk l_kept c_kept k_kept), g_kept := (PySem.W.mg_of X G a_kept), b_kept := ((fun_mk (st := s_kept) l_kept c_kept k_kept).binds fun _ _ _ _ _ _ us hl => match us, hl with | [_], _ => rfl), F_checkmany := (fun_mk l_checkmany c_checkmany k_checkmany), g_checkmany := (PySem.W.mg_of X G a_checkmany), b_checkmany := ((fun_mk (st := s_checkmany) l_checkmany c_checkmany k_checkmany).binds fun _ _ _ _ _ _ us hl => match us, hl with | [_], _ => rfl), F_checkcounts := (fun_mk l_checkcounts c_checkcounts k_checkcounts), g_checkcounts := (PySem.W.mg_of X G a_checkcounts), b_checkcounts := ((fun_mk (st := s_checkcounts) l_checkcounts c_checkcounts k_checkcounts).binds fun _ _ _ _ _ _ us hl => match us, hl with | [_], _ => rfl), F_istriple := (fun_mk l_istriple c_istriple k_istriple), g_istriple := (PySem.W.mg_of X G a_istriple), b_istriple := ((fun_mk (st := s_istriple) l_istriple c_istriple k_istriple).binds fun _ _ _ _ _ _ us hl => match us, hl with | [_], _ => rfl), F_canjoin := (fun_mk l_canjoin c_canjoin k_canjoin), g_canjoin := (PySem.W.mg_of X G a_canjoin), b_canjoin := ((fun_mk (st := s_canjoin) l_canjoin c_canjoin k_canjoin).binds fun _ _ _ _ _ _ us hl => match us, hl with | [_, _], _ => rfl), F_isjoining := (fun_mk l_isjoining c_isjoining k_isjoining), g_isjoining := (PySem.W.mg_of X G a_isjoining), b_isjoining := ((fun_mk (st := s_isjoining) l_isjoining c_isjoining k_isjoining).binds fun _ _ _ _ _ _ us hl => match us, hl with | [_, _], _ => rfl), F_penof := (fun_mk l_penof c_penof k_penof), g_penof := (PySem.W.mg_of X G a_penof), b_penof := ((fun_mk (st := s_penof) l_penof c_penof k_penof).binds fun _ _ _ _ _ _ us hl => match us, hl with | [_], _ => rfl), F_draw := (fun_mk l_draw c_draw k_draw), g_draw := (PySem.W.mg_of X G a_draw), b_draw := ((fun_mk (st := s_draw) l_draw c_draw k_draw).binds fun _ _ _ _ _ _ us hl => match us, hl with | [_, _], _ => rfl), F_pick := (fun_mk l_pick c_pick k_pick), g_pick := (PySem.W.mg_of X G a_pick), b_pick := ((fun_mk (st := s_pick) l_pick c_pick k_pick).binds fun _ _ _ _ _ _ us hl => match us, hl with | [_, _], _ => rfl), F_somecounts := (fun_mk l_somecounts c_somecounts k_somecounts), g_somecounts := (PySem.W.mg_of X G a_somecounts), b_somecounts := ((fun_mk (st := s_somecounts) l_somecounts c_somecounts k_somecounts).binds fun _ _ _ _ _ _ us hl => match us, hl with | [_, _], _ => rfl), F_oddcounts := (fun_mk l_oddcounts c_oddcounts k_oddcounts), g_oddcounts := (PySem.W.mg_of X G a_oddcounts), b_oddcounts := ((fun_mk (st := s_oddcounts) l_oddcounts c_oddcounts k_oddcounts).binds fun _ _ _ _ _ _ us hl => match us, hl with | [_, _], _ => rfl), F_met := (fun_mk l_met c_met k_met), g_met := (PySem.W.mg_of X G a_met), b_met := ((fun_mk (st := s_met) l_met c_met k_met).binds fun _ _ _ _ _ _ us hl => match us, hl with | [_], _ => rfl), F_drawn := (fun_mk l_drawn c_drawn k_drawn), g_drawn := (PySem.W.mg_of X G a_drawn), b_drawn := ((fun_mk (st := s_drawn) l_drawn c_drawn k_drawn).binds fun _ _ _ _ _ _ us hl => match us, hl with | [_, _], _ => rfl), F_isnumber := (fun_mk l_isnumber c_isnumber k_isnumber), g_isnumber := (PySem.W.mg_of X G a_isnumber), b_isnumber := ((fun_mk (st := s_isnumber) l_isnumber c_isnumber k_isnumber).binds fun _ _ _ _ _ _ us hl => match us, hl with | [_], _ => rfl), F_isright := (fun_mk l_isright c_isright k_isright), g_isright := (PySem.W.mg_of X G a_isright), b_isright := ((fun_mk (st := s_isright) l_isright c_isright k_isright).binds fun _ _ _ _ _ _ us hl => match us, hl with | [_, _], _ => rfl), F_bent := (fun_mk l_bent c_bent k_bent), g_bent := (PySem.W.mg_of X G a_bent), b_bent := ((fun_mk (st := s_bent) l_bent c_bent k_bent).binds fun _ _ _ _ _ _ us hl => match us, hl with | [_, _], _ => rfl), F_law := (func_mk l_law c_law k_law), g_law := (PySem.W.mg_of X G a_law), b_law := ((func_mk (st := s_law) l_law c_law k_law).fn.binds fun _ _ _ _ _ _ us hl => match us, hl with | [_], _ => rfl), E_TooMany := (ec_mk X G aC_TooMany xL_TooMany eB_TooMany lI_TooMany cI_TooMany kI_TooMany ⟨fun s us ws _ h1 h2 => match us, ws, h1, h2 with | [_, _, _, _], [], _, _ => .of_eq rfl, fun r _ => r⟩ ((fun_mk (st := s_TooMany) lI_TooMany cI_TooMany kI_TooMany).binds fun _ _ _ _ _ _ us hl => match us, hl with | [_, _, _, _], _ => rfl)), E_BadCount := (ec_mk X G aC_BadCount xL_BadCount eB_BadCount lI_BadCount cI_BadCount kI_BadCount ⟨fun s us ws _ h1 h2 => match us, ws, h1, h2 with | [_, _], [], _, _ => .of_eq rfl, fun r _ => r⟩ ((fun_mk (st := s_BadCount) lI_BadCount cI_BadCount kI_BadCount).binds fun _ _ _ _ _ _ us hl => match us, hl with | [_, _], _ => rfl)), B := (⟨rJ, sJ, vJ⟩), gj := (PySem.W.mg_of X G aJ), cj := (iJ), tj := (tJ), ne := (hne), nej := (hnj), k_FEWEST_SIGNS := (⟨_, PySem.W.mg_of X G q_FEWEST_SIGNS⟩), k_MOST_SIGNS := (⟨_, PySem.W.mg_of X G q_MOST_SIGNS⟩), z_ValueError := (PySem.W.mg_none_of X G z_ValueError), z_abs := (PySem.W.mg_none_of X G z_abs), z_all := (PySem.W.mg_none_of X G z_all), z_any := (PySem.W.mg_none_of X G z_any), z_bool := (PySem.W.mg_none_of X G z_bool), z_dict := (PySem.W.mg_none_of X G z_dict), z_enumerate := (PySem.W.mg_none_of X G z_enumerate), z_int := (PySem.W.mg_none_of X G z_int), z_isinstance := (PySem.W.mg_none_of X G z_isinstance), z_len := (PySem.W.mg_none_of X G z_len), z_list := (PySem.W.mg_none_of X G z_list), z_max := (PySem.W.mg_none_of X G z_max), z_min := (PySem.W.mg_none_of X G z_min), z_range := (PySem.W.mg_none_of X G z_range), z_repr := (PySem.W.mg_none_of X G z_repr), z_tuple := (PySem.W.mg_none_of X G z_tuple) }
  refine ⟨_, [(C_law, P_law)], spLaw K _, fun p hp => ?_, fun p hp => ?_, fun p hp => ?_, fun s u => .of_eq rfl, fun H a ns hl _ hH hS => ⟨a, ns, rfl, hS, hl, fun p hp => ?_, fun _ => rfl⟩, fun base _ _ tb => ok_law T (tb (C_law, P_law) (by simp))⟩
  · simp only [List.mem_cons, List.not_mem_nil, or_false] at hp
    subst hp
    exact (TF _ _ _ r_law t_law).2
  · simp only [List.mem_cons, List.not_mem_nil, or_false] at hp
    subst hp
    exact n_law
  · simp only [List.mem_cons, List.not_mem_nil, or_false] at hp
    subst hp
    exact (TF _ _ _ r_law t_law).1
  · unfold TL at hp
    simp only [List.mem_cons, List.not_mem_nil, or_false] at hp
    subst hp
    exact TabS.nil (hH (C_law, P_law) (by simp))
end
end Z

set_option Elab.async false
open PySem PySem.W PyProof.Rows
set_option maxRecDepth 100000
set_option maxHeartbeats 0
open_top k21head for PySem.Challenge.rw_leastjoined_k21_joinings_judged

open PySem PySem.W PyProof.Rows
set_option Elab.async false
set_option maxRecDepth 100000
set_option maxHeartbeats 0
set_option linter.all false
theorem PySem.Challenge.cw_leastjoined_k21_joinings_judged_holds : PySem.Challenge.rw_leastjoined_k21_joinings_judged.Holds := by
  refine k21head ?_
  k_fill
  refine XV.walk_ofTab (l := PySem.Challenge.rw_leastjoined_k21_joinings_judged) (n := 63) (k := 10) (x := "_law_script") (CX := fun _ => L2.CX0) rfl (by decide) rfl ⟨rfl, by decide, by decide⟩ (fun w h Y => PySem.W.km_in_of Y) ?F ?hCX
  case hCX => intro w H s e s' h; exact h
  case F =>
    intro w mg fa h TF Y KX G hmg
    refine' Z.all_mk TF KX G hmg ?a_isint ?l_isint ?c_isint ?k_isint ?a_kept ?l_kept ?c_kept ?k_kept ?a_checkmany ?l_checkmany ?c_checkmany ?k_checkmany ?a_checkcounts ?l_checkcounts ?c_checkcounts ?k_checkcounts ?a_istriple ?l_istriple ?c_istriple ?k_istriple ?a_canjoin ?l_canjoin ?c_canjoin ?k_canjoin ?a_isjoining ?l_isjoining ?c_isjoining ?k_isjoining ?a_penof ?l_penof ?c_penof ?k_penof ?a_draw ?l_draw ?c_draw ?k_draw ?a_pick ?l_pick ?c_pick ?k_pick ?a_somecounts ?l_somecounts ?c_somecounts ?k_somecounts ?a_oddcounts ?l_oddcounts ?c_oddcounts ?k_oddcounts ?a_met ?l_met ?c_met ?k_met ?a_drawn ?l_drawn ?c_drawn ?k_drawn ?a_isnumber ?l_isnumber ?c_isnumber ?k_isnumber ?a_isright ?l_isright ?c_isright ?k_isright ?a_bent ?l_bent ?c_bent ?k_bent ?a_law ?l_law ?c_law ?k_law ?e_law ?v_law ?r_law ?n_law ?aJ ?rJ ?sJ ?vJ ?iJ ?tJ ?aC_TooMany ?xL_TooMany ?iI_TooMany ?eB_TooMany ?lI_TooMany ?cI_TooMany ?kI_TooMany ?aC_BadCount ?xL_BadCount ?iI_BadCount ?eB_BadCount ?lI_BadCount ?cI_BadCount ?kI_BadCount ?hne ?hnj ?q_FEWEST_SIGNS ?q_MOST_SIGNS ?z_ValueError ?z_abs ?z_all ?z_any ?z_bool ?z_dict ?z_enumerate ?z_int ?z_isinstance ?z_len ?z_list ?z_max ?z_min ?z_range ?z_repr ?z_tuple
    (case a_isint => k_is)
    (case l_isint => k_is)
    (case c_isint => k_is)
    (case k_isint => k_is)
    (case a_kept => k_is)
    (case l_kept => k_is)
    (case c_kept => k_is)
    (case k_kept => k_is)
    (case a_checkmany => k_is)
    (case l_checkmany => k_is)
    (case c_checkmany => k_is)
    (case k_checkmany => k_is)
    (case a_checkcounts => k_is)
    (case l_checkcounts => k_is)
    (case c_checkcounts => k_is)
    (case k_checkcounts => k_is)
    (case a_istriple => k_is)
    (case l_istriple => k_is)
    (case c_istriple => k_is)
    (case k_istriple => k_is)
    (case a_canjoin => k_is)
    (case l_canjoin => k_is)
    (case c_canjoin => k_is)
    (case k_canjoin => k_is)
    (case a_isjoining => k_is)
    (case l_isjoining => k_is)
    (case c_isjoining => k_is)
    (case k_isjoining => k_is)
    (case a_penof => k_is)
    (case l_penof => k_is)
    (case c_penof => k_is)
    (case k_penof => k_is)
    (case a_draw => k_is)
    (case l_draw => k_is)
    (case c_draw => k_is)
    (case k_draw => k_is)
    (case a_pick => k_is)
    (case l_pick => k_is)
    (case c_pick => k_is)
    (case k_pick => k_is)
    (case a_somecounts => k_is)
    (case l_somecounts => k_is)
    (case c_somecounts => k_is)
    (case k_somecounts => k_is)
    (case a_oddcounts => k_is)
    (case l_oddcounts => k_is)
    (case c_oddcounts => k_is)
    (case k_oddcounts => k_is)
    (case a_met => k_is)
    (case l_met => k_is)
    (case c_met => k_is)
    (case k_met => k_is)
    (case a_drawn => k_is)
    (case l_drawn => k_is)
    (case c_drawn => k_is)
    (case k_drawn => k_is)
    (case a_isnumber => k_is)
    (case l_isnumber => k_is)
    (case c_isnumber => k_is)
    (case k_isnumber => k_is)
    (case a_isright => k_is)
    (case l_isright => k_is)
    (case c_isright => k_is)
    (case k_isright => k_is)
    (case a_bent => k_is)
    (case l_bent => k_is)
    (case c_bent => k_is)
    (case k_bent => k_is)
    (case a_law => k_is)
    (case l_law => k_is)
    (case c_law => k_is)
    (case k_law => k_is)
    (case e_law => k_is)
    (case v_law => exact rfl)
    (case r_law => kernel_rfl)
    (case n_law => kernel_rfl)
    (case aJ => k_is)
    (case rJ => first | k_is | kernel_rfl)
    (case sJ => first | k_is | kernel_rfl)
    (case vJ => first | k_is | kernel_rfl)
    (case iJ => first | k_is | kernel_rfl)
    (case tJ => first | k_is | kernel_rfl)
    (case aC_TooMany => k_is)
    (case xL_TooMany => k_is)
    (case iI_TooMany => k_is)
    (case eB_TooMany => kernel_rfl)
    (case lI_TooMany => k_is)
    (case cI_TooMany => k_is)
    (case kI_TooMany => k_is)
    (case aC_BadCount => k_is)
    (case xL_BadCount => k_is)
    (case iI_BadCount => k_is)
    (case eB_BadCount => kernel_rfl)
    (case lI_BadCount => k_is)
    (case cI_BadCount => k_is)
    (case kI_BadCount => k_is)
    (case hne => decide)
    (case hnj => decide)
    (case q_FEWEST_SIGNS => k_is)
    (case q_MOST_SIGNS => k_is)
    (case z_ValueError => k_is)
    (case z_abs => k_is)
    (case z_all => k_is)
    (case z_any => k_is)
    (case z_bool => k_is)
    (case z_dict => k_is)
    (case z_enumerate => k_is)
    (case z_int => k_is)
    (case z_isinstance => k_is)
    (case z_len => k_is)
    (case z_list => k_is)
    (case z_max => k_is)
    (case z_min => k_is)
    (case z_range => k_is)
    (case z_repr => k_is)
    (case z_tuple => k_is)

