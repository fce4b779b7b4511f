import PyProof.Rows.All
import Wide.All
import OpenK.AllK
import Wide.FinOn
import HandS.ForMost
import HandS.Walk
import KE.GoesEnum
import KE.GoesNew
import KE.GoesMore
import KE.DataMinMax
import HandS.Iter
import HandS.List
import HandS.OwnEq
import HandS.SlotsOwn
import PyProof.InstNe
import OpenK.KMake
import HandS.Replace
import HandS.ReplaceLit
import HandS.Comp
import PyProof.ToksMono
import HandS.Exc
import HandS.ExcInit
import HandS.ExcIs
import HandS.IsInst
import HandS.DictComp
import HandS.MakeKw
import KE.KExcIs
import PyProof.ReprReads
import PyProof.ReprRoads
import HandS.ExcValue
import HandS.Lambda
import HandS.TryMany
import HandS.ExcField
import HandS.ExcOwn
import HandS.WordsExc
import HandS.Style
import HandS.EndTab
import KE.KNest
import HandS.FStr
import PyProof.Rows.StrIntSpec
import HandS.Text
import HandS.ReplaceList
import PyProof.Rows.RegReprOcc
import PyProof.StrBlock2
import PyProof.Rows.StrStep
import PyProof.Rows.StrMul
import PyProof.NeKinds
import HandS.Defaults
import HandS.Wide
import HandS.TupAny
import HandS.StrMore
import HandS.SortRule
import HandS.Gcd
import PySem.Challenge.RW_leastjoined_k36_codes_refused
set_option Elab.async false
set_option linter.all false
set_option maxRecDepth 100000
set_option maxHeartbeats 4000000
/-! enumerate of a list or a tuple; max of a tuple -/
namespace PySem
open Sem (wp)
theorem enum_new1 {v : Value} {o : Obj} {J : Heap → Prop} (B : Begins v o J) :
    Meets (Builtin.«enumerate.__new__» ⟨[.type "enumerate", v], []⟩) (fun _ R s => J s.heap ∧
      R (.ok (.ret (.ref (s.heap.push o).objs.size))) { s with heap := (s.heap.push o).push { cls := .type "enumerate", data := .fields #[.none, .bool false, .ref s.heap.objs.size, rawInt 0, .none, .none] } }) :=
  .of_wp fun prog w A R st hst => by
    obtain ⟨hp, gs, dr, tk, os⟩ := st
    obtain ⟨j0, hst⟩ := hst
    have sub0 := sub_enumerate
    have begin0 : ∀ {A' : Around} {E : Value → Shared → Prop} {Q : Value → Shared → Prop}, Q (.ref hp.objs.size) ⟨hp.push o, gs, dr, tk, os⟩ → wpAny (model prog w) A' (pyIter v) Q E ⟨hp, gs, dr, tk, os⟩ :=
      fun q => B.iter prog w _ _ ⟨hp, gs, dr, tk, os⟩ _ j0 q
    wp_walk
    refine wpAny_stack_any fun below => wpAny_pure ?_
    split
    · rename_i cls _ _ _ _ _
      cases (cls == Value.type "enumerate")
      · wp_walk using begin0
        exact ⟨_, rfl, hst⟩
      · wp_walk using begin0
        exact ⟨_, rfl, hst⟩
    · wp_walk using begin0
      exact ⟨_, rfl, hst⟩
section
variable {prog : Program} {w : World} {A : Around} {E : Value → Shared → Prop} {s : Shared}
theorem enum_call1 {v : Value} {o : Obj} {J : Heap → Prop} {Q : Value → Shared → Prop} (B : Begins v o J) (j0 : J s.heap)
    (h : ∀ h', IsEnum h' (s.heap.objs.size + 1) s.heap.objs.size 0 .none → h'.get? s.heap.objs.size = some o → h'.objs.size = s.heap.objs.size + 2 →
      (∀ b u, s.heap.get? b = some u → h'.get? b = some u) → Q (.ref (s.heap.objs.size + 1)) { s with heap := h' }) :
    wpAny (model prog w) A (call (.type "enumerate") [v]) Q E s := by
  refine callType_new F.called_enumerate (by decide) (F.typeCall_enumerate_1 _) (F.newCall_enumerate_1 _) (fun obj => F.args_object_init_2 obj _) F.entry_enumerate_new (enum_new1 B) ⟨j0, ?_⟩
  have z1 : (s.heap.push o).objs.size = s.heap.objs.size + 1 := Heap.size_push ..
  show _ ∧ _
  rw [z1]
  have he : IsEnum ((s.heap.push o).push { cls := .type "enumerate", data := .fields #[.none, .bool false, .ref s.heap.objs.size, rawInt 0, .none, .none] }) (s.heap.objs.size + 1) s.heap.objs.size 0 .none := by
    have q := Heap.get?_push_size (s.heap.push o) (o := { cls := .type "enumerate", data := .fields #[.none, .bool false, .ref s.heap.objs.size, rawInt 0, .none, .none] }) rfl
    rw [z1] at q
    exact q
  exact ⟨⟨_, he, rfl⟩, h _ he (Heap.get?_push_of_some _ (Heap.get?_push_size _ B.free)) (by rw [Heap.size_push, z1]) fun b u x => Heap.get?_push_of_some _ (Heap.get?_push_of_some _ x)⟩
end
end PySem

set_option Elab.async false
set_option linter.all false
set_option maxRecDepth 100000
set_option maxHeartbeats 4000000
/-! enumerate of a tuple; a rule that reads either way -/
namespace L2
open PySem PySem.Spec PyProof.Rows
/-- a list or a tuple -/
def SqE (K : PySem.W.Frag) (H : Hp) (a : Addr) (xs : List V) : Prop := SqL K H a xs ∨ SqT K H a xs
/-- the tuple at a, its items in new pairs behind their places -/
def Itf (K : PySem.W.Frag) (a : Addr) : It :=
  ⟨fun i H => ∃ (zs : List V) (z : V), SqT K H a zs ∧ zs[i]? = some z, fun i H v H' => ∃ P z, v = .ref P ∧ H P = none ∧ H' = upd H P (.tup [.int (i : Nat), z]) ∧ ∀ zs, SqT K H a zs → zs[i]? = some z,
    fun i H => ∃ zs : List V, SqT K H a zs ∧ zs.length = i⟩
theorem turn_enumF {P : Program} {w : World} {K : PySem.W.Frag} {es : List Expr} {m : Nat} {tp : Pos} (a g it : Addr) :
    Turn P w K (.Tuple es m tp) (Itf K a) [g, it] g (fun i h => (∃ old, IsEnum h g it ((i : Nat) : Int) old) ∧ h.IsTupleIter it a i ∧ g ≠ it) where
  mem := by simp
  obj := fun i h st b hb => by
    obtain ⟨⟨old, he⟩, ⟨o, ho, hc, hd⟩, _⟩ := st
    rcases (show b = g ∨ b = it by simpa using hb) with z | z
    · subst z; exact ⟨_, he, fun v q => nomatch q⟩
    · subst z; exact ⟨o, ho, fun v q => by rw [hd] at q; cases q⟩
  keep := fun i h h' st k => by
    obtain ⟨⟨old, he⟩, hi, hne⟩ := st
    exact ⟨⟨old, k g (by simp) _ he⟩, hi.at fun o q => k it (by simp) o q, hne⟩
  item := by
    intro X eP ew eK hc i pins s σ H E Iv fpo st go
    subst eP ew eK
    obtain ⟨⟨old, he⟩, hit, hne⟩ := st
    obtain ⟨zs, z, hq, hx⟩ := go
    obtain ⟨its, rv, p, hz⟩ := Iv.tuple hq
    obtain ⟨u, hu, ru⟩ := rv.get hx
    have gl : g < s.heap.objs.size := Heap.lt_size he
    have il : it < s.heap.objs.size := by obtain ⟨_, q, _⟩ := hit; exact Heap.lt_size q
    have tu : s.heap.IsTuple a its.toArray := p
    have ai : a ≠ it := by
      rintro rfl
      obtain ⟨o, e1, c1, d1⟩ := hit
      obtain ⟨o2, e2, c2, _⟩ := tu
      rw [e1] at e2
      obtain rfl := Option.some.inj e2
      rw [c1] at c2; exact absurd c2 (by decide)
    have ga : g ≠ a := by
      rintro rfl
      obtain ⟨o2, e2, c2, _⟩ := tu
      rw [show s.heap.get? g = some _ from he] at e2
      obtain rfl := Option.some.inj e2
      exact absurd (show Value.type "enumerate" = Value.type "tuple" from c2) (by decide)
    have D := Draws.tuple (prog := X.prog) (w := X.w) (A := X.A.in1) (Iv.ok.hd hc) it a ai its.toArray
    refine wpAny_pyNext_enum_itemC D he (i := i) ⟨hit, tu⟩ (by have := (List.getElem?_eq_some_iff.mp hu).1; simpa using this) hne (by simp [hne, ga]) fun x h1 tk hx1 ho hst1 hT hsz hk => ?_
    obtain rfl : x = u := by
      have : its.toArray[i]? = some u := by simpa using hu
      rw [this] at hx1
      exact (Option.some.inj hx1).symm
    refine ⟨_, rfl, wpAny_letOwnedTupleGo_enum (s := { s with heap := h1, toks := tk + 1 }) ho fun h2 he2 sb => ?_⟩
    have hT2 := (sb.2 _ (Nat.ne_of_gt gl)).trans hT
    have nw : ObjOk X.prog X.w (upd H s.heap.objs.size (.tup [.int (i : Nat), z])) h2 s.heap.objs.size (.tup [.int (i : Nat), z]) :=
      ⟨by show 2 ≤ sizeLine; decide, [.int i tk, x], .cons ⟨_, rfl⟩ (.cons ru .nil), ⟨_, hT2, rfl, _, rfl⟩⟩
    have I1 : Inv X pins σ (upd H s.heap.objs.size (.tup [.int (i : Nat), z])) { s with heap := h2, toks := tk + 1 } :=
      Iv.turnedNew (ch := [g, it]) (fun b ob hb q => (sb.2 b (fun y => hb (by simp [y]))).trans (hk b ob (fun y => hb (by simp [y])) (fun y => hb (by simp [y])) q)) fpo (Nat.le_refl _) nw
    refine ⟨.ref s.heap.objs.size, _, I1, rfl, ⟨_, z, rfl, Iv.hok.fresh (Nat.le_refl _), rfl, fun ys hy => by rw [Iv.tuple_inj hy hq]; exact hx⟩, ⟨⟨x, ?_⟩, hst1.1.at fun o q => (sb.2 it (Ne.symm hne)).trans q, hne⟩, fun b hb => ?_⟩
    · rw [show ((i + 1 : Nat) : Int) = (i : Int) + 1 by omega]; exact he2
    · have hb' : b < s.heap.objs.size := by
        rcases (show b = g ∨ b = it by simpa using hb) with y | y
        · subst y; exact gl
        · subst y; exact il
      rw [upd_ne (Nat.ne_of_lt hb')]
      exact (fpo b hb).1
  done := by
    intro X eP ew eK hc i pins s σ H E Iv fpo st go
    subst eP ew eK
    obtain ⟨⟨old, he⟩, hit, hne⟩ := st
    obtain ⟨zs, hq, hx⟩ := go
    obtain ⟨its, rv, p, hz⟩ := Iv.tuple hq
    obtain ⟨f0, f1, f2, f3, f4, f5⟩ := fpo it (by simp)
    have tu : s.heap.IsTuple a its.toArray := p
    have ai : a ≠ it := by
      rintro rfl
      obtain ⟨o, e1, c1, d1⟩ := hit
      obtain ⟨o2, e2, c2, _⟩ := tu
      rw [e1] at e2
      obtain rfl := Option.some.inj e2
      rw [c1] at c2; exact absurd c2 (by decide)
    have D := Draws.tuple (prog := X.prog) (w := X.w) (A := X.A.in1) (Iv.ok.hd hc) it a ai its.toArray
    have hl : its.toArray.size = i := by rw [List.size_toArray, ← rv.length]; exact hx
    exact wpAny_pyNext_enum_endD D he (by rw [hl]; exact ⟨hit, tu⟩) fun h1 eb => ⟨rfl, Iv.turned (t' := s.toks) (fun b o hb q => eb b o hb q) f0 f1 f3 f4 f5⟩
  self := fun A i s Q E st h => let ⟨⟨_, he⟩, _⟩ := st; wpAny_pyIter_enum he h
def iEnumF (K : PySem.W.Frag) (ta : TA) : TI := fun σ H R => ta σ H fun vs H1 => ∃ a zs, vs = [.ref a] ∧ SqT K H1 a zs ∧ R (Itf K a) H1
theorem pi_enumF {X : Cx} {e : Expr} {ta : TA} {p pos tp : Pos} {es : List Expr} {m : Nat} (hg : Gl X "enumerate") (hm : X.mg "enumerate" = none) (ha : PA X [e] ta) (hs : starEach [e] X.env = [(false, eval e X.env)] := by rfl) :
    PI X (.Tuple es m tp) (.Call (.Name "enumerate" p) [e] [] pos) (iEnumF X.K ta) := by
  refine ⟨fun pins s σ H R Iv h => Call_ (ld_blt Iv hg hm boot_enumerate (PyProof.Rows.callWith_type1 (thn (ha.run pos pins s σ H _ Iv h) fun us s1 ⟨vs, H1, I1, r1, q1⟩ => ?_) hs rfl))⟩
  obtain ⟨a, zs, rfl, hq, q⟩ := q1
  rw [Vals.ref1 r1]
  obtain ⟨its, rv, tu, hz⟩ := I1.tuple hq
  refine enum_call1 (begins_tuple a its.toArray) (show s1.heap.IsTuple a its.toArray from tu) fun h1 he hit hsz hk => wpAny_pyIter_enum he ?_
  have I2 : Inv X pins σ H1 { s1 with heap := h1 } := I1.kept (t' := s1.toks) hk
  refine ⟨s1.heap.objs.size + 1, [s1.heap.objs.size + 1, s1.heap.objs.size], _, _, H1, rfl, I2, turn_enumF a (s1.heap.objs.size + 1) s1.heap.objs.size, ⟨⟨.none, he⟩, ⟨_, hit, rfl, rfl⟩, Nat.succ_ne_self _⟩, fun b hb => ?_, q⟩
  have hle : s1.heap.objs.size ≤ b := by
    rcases (show b = s1.heap.objs.size + 1 ∨ b = s1.heap.objs.size by simpa using hb) with z | z <;> subst z
    · exact Nat.le_add_right _ _
    · exact Nat.le_refl _
  exact I1.fpOk hle (I1.hok.fresh hle)
/-- either reading -/
theorem pi_or {X : Cx} {tg it : Expr} {u v : TI} (a : PI X tg it u) (b : PI X tg it v) : PI X tg it (fun σ H R => u σ H R ∨ v σ H R) :=
  ⟨fun pins s σ H R I h => h.elim (a.run pins s σ H R I) (b.run pins s σ H R I)⟩
theorem cr_or {X : Cx} {f : Value} {r q : List V → Hp → VK → Prop} (a : CallR X f r) (b : CallR X f q) : CallR X f (fun xs H Q => r xs H Q ∨ q xs H Q) :=
  fun pins s σ H xs us Q I rs h => h.elim (a pins s σ H xs us Q I rs) (b pins s σ H xs us Q I rs)
/-! ### max of a tuple -/
section
variable {prog : Program} {w : World} {A : Around} {E : Value → Shared → Prop} {s : Shared} {a : Addr} {its : List Value} {ns : List Int} {Q : Value → Shared → Prop}
theorem max_tup (hh : A.handled = none) (hl : s.heap.IsTuple a its.toArray) (hi : IntsAre its ns) (hne : 0 < ns.length)
    (h : ∀ h1 tk M t, (∀ b o, s.heap.get? b = some o → h1.get? b = some o) → M ∈ ns → (∀ y, y ∈ ns → y ≤ M) → Q (.int M t) { s with heap := h1, toks := tk }) : wpAny (model prog w) A (call (.builtin "max") [.ref a]) Q E s := by
  obtain ⟨xs, e⟩ := hi.allInts.items
  have hn : numsOf (intItems xs).toList = ns := by rw [← e]; exact hi.numsOf
  rw [nums_intItems] at hn
  subst hn
  rw [e] at hl
  have hsz : 0 < xs.size := by simpa using hne
  have lt : a < s.heap.objs.size := by obtain ⟨_, q, _⟩ := hl; exact Heap.lt_size q
  refine call_max_walk (wpAny_pyIter_tuple hl ⟨_, _, _, _, _, _, _, rfl, Walks.tuple (A := A.in1) hh _ a (Nat.ne_of_lt lt) (intItems xs), ⟨⟨_, Heap.get?_push_size _ rfl, rfl, rfl⟩, hl.push _⟩, fun b hb => ?_, by simpa [intItems] using hsz, CmpOf.ints_gt (numAt xs) (fun _ _ => intItems_at), fun v h1 tk hv hk => ?_⟩)
  · show b < (s.heap.push _).objs.size
    rw [Heap.size_push]
    rcases (show b = s.heap.objs.size ∨ b = a by simpa using hb) with z | z <;> subst z
    · exact Nat.lt_succ_self _
    · exact Nat.lt_succ_of_lt lt
  · have hv : (intItems xs)[argBest (fun i j => decide (numAt xs i > numAt xs j)) (xs.size - 1)]? = some v := by simpa [intItems] using hv
    obtain ⟨t, rfl⟩ := intItems_at hv
    obtain ⟨k1, k2⟩ := argBest_gt (numAt xs) (xs.size - 1)
    refine h h1 tk _ t (fun b o q => hk b o (fun hm => ?_) (Heap.get?_push_of_some _ q)) ?_ fun y hy => ?_
    · have : b = s.heap.objs.size := by simpa using hm
      exact absurd (this ▸ Heap.lt_size q) (Nat.lt_irrefl _)
    · rw [numAt_eq]; exact PySem.getD_mem (by rw [List.length_map, Array.length_toList]; omega)
    · obtain ⟨j, hj, rfl⟩ := mem_getD hy
      rw [List.length_map, Array.length_toList] at hj
      rw [← numAt_eq]; exact k2 j (by omega)
end
def rMaxT (K : PySem.W.Frag) : List V → Hp → VK → Prop := fun vs H Q => ∃ (a : Addr) (ns : List Int), vs = [V.ref a] ∧ SqT K H a (ns.map V.int) ∧ 0 < ns.length ∧ ∀ m, m ∈ ns → (∀ y, y ∈ ns → y ≤ m) → Q (.int m) H
theorem cr_maxT {X : Cx} (hc : X.calm = true) : CallR X (.builtin "max") (rMaxT X.K) := by
  intro pins s σ H vs us Q Iv r h
  obtain ⟨a, ns, rfl, hs, hne, q⟩ := h
  obtain ⟨its, rv, tu, _⟩ := Iv.tuple hs
  rw [Vals.ref1 r]
  exact max_tup (Iv.ok.hd hc) (show s.heap.IsTuple a its.toArray from tu) rv.ints hne fun h1 tk m t hk h1' h2 => ⟨.int _, H, Iv.kept hk, ⟨_, rfl⟩, q m h1' h2⟩
end L2

set_option Elab.async false
set_option linter.all false
set_option maxRecDepth 100000
set_option maxHeartbeats 4000000
/-! x == y, x != y: x an instance whose class has an own == (answers any flag) and no own != -/
namespace PySem.W
open PySem PySem.Spec PyProof.Rows Builtin
section
variable {prog : Program} {w : World} {A : Around} {E : Value → Shared → Prop} {s : Shared} {K : Frag} {x C f : Addr} {ox : Obj} {od : Option Obj} {b tb : Value}
theorem objNe_run {Q : Fin → Shared → Prop} (X : K.In s.heap) (I : InstAt s.heap x ox C od) (he : findIn K (.ref C) "__eq__" = some (some (.ref f))) (hf : isFn K (.ref f) = true) (hu : A.units < cLine)
    (h : wpAny (model prog w) A (call (.ref f) [.ref x, b]) (fun v s' => ∃ r, v = .bool r ∧ Q (.done (.ret (.bool (!r)))) s') E s) :
    wpAny (model prog w) A (Builtin.«object.__ne__» ⟨[.ref x, b], []⟩) Q E s := by
  unfold Builtin.«object.__ne__»
  repeat (first
    | with_reducible refine wpAny_cRoomFor hu ?_
    | (refine wpAny_bind (m := callSpecialIfBound? (.ref x) (Str.ofString "__eq__") [b])
        (ifBound_K X I he hf (wpAny_mono h (fun v s1 hv => by
          obtain ⟨r, rfl, q⟩ := hv
          repeat (first | exact q | exact wpAny_pure q | exact wpAny_truthy_bool q | (refine wpAny_bind (m := truthy (.bool _)) (wpAny_truthy_bool ?_)) | wp_step)) fun _ _ e => e)))
    | wp_step)
theorem tryNe {Q : Option Value → Shared → Prop} (X : K.In s.heap) (I : InstAt s.heap x ox C od) (hs : findIn K (.ref C) "__ne__" = some (some (.builtin "object.__ne__"))) (he : findIn K (.ref C) "__eq__" = some (some (.ref f))) (hf : isFn K (.ref f) = true)
    (ho : subIn K (.ref C) (.type "object") = some true) (hu : A.units + 1 < cLine)
    (h : wpAny (model prog w) A.in1 (call (.ref f) [.ref x, b]) (fun v s' => ∃ r, v = .bool r ∧ Q (some (.bool (!r))) s') E s) : wpAny (model prog w) A (tryCompare (.ref x) "__ne__" b) Q E s := by
  have S := F.cmp_object.ne
  have isI : Looks (model prog w) s.heap (isInstance (.ref x) (.type "object")) true := I.type.andThen (looks_subIn X ho)
  unfold tryCompare
  simp only [callSpecialIfBound?, bindSpecialIfBound?]
  refine wpAny_bind (wpAny_holding (wpAny_bind (wpAny_bind (wpAny_bind (I.type.here ((looks_findIn X hs).here ?_))))))
  simp only [S.bind]
  refine wpAny_bind (wpAny_askSetting (wpAny_ite ?_))
  have fin : wpAny (model prog w) A (call (.builtin "object.__ne__") ([.ref x] ++ [b])) (fun v s' => ∃ r, v = .bool r ∧ Q (some (.bool r)) s') E s := by
    refine wpAny_call (codeAny_call_builtin S.plain F.cmpEntry_ne (check_slot F.cmpKind_ne F.cmpSplit_ne isI (F.cmpArgs_ne _ _) (objNe_run (A := A.in1) X I he hf hu (wpAny_mono h (fun v s1 hv => ?_) fun _ _ e => e))))
    obtain ⟨r, e, q⟩ := hv
    exact ⟨r, e, ⟨_, rfl, q⟩⟩
  have fin2 : wpAny (model prog w) A (call (.builtin "object.__ne__") ([.ref x] ++ [b]) >>= fun v => pure (some v)) (fun r s' => ∃ v, r = some (.bool v) ∧ Q (some (.bool v)) s') E s :=
    wpAny_bind (wpAny_mono fin (fun v s1 ⟨r, e, q⟩ => by subst e; exact wpAny_pure ⟨_, rfl, q⟩) fun _ _ e => e)
  have last : wpAny (model prog w) A (call (.builtin "object.__ne__") ([.ref x] ++ [b]) >>= fun v => pure (some v)) (fun r s' => wpAny (model prog w) A (match r with
      | some Value.notImplemented => pure none
      | none => pure none
      | some v => pure (some v)) Q E s') E s := wpAny_mono fin2 (fun r s1 ⟨v, e, q⟩ => by subst e; exact wpAny_pure q) fun _ _ e => e
  split
  · refine wpAny_bind (wpAny_pure (wpAny_pure ?_))
    exact last
  · refine wpAny_tryCatch (wpAny_bind (wpAny_pure (wpAny_pure ?_)))
    exact last
end
end PySem.W

set_option Elab.async false
set_option linter.all false
set_option maxRecDepth 100000
set_option maxHeartbeats 4000000
/-! the operators == and != of such a class -/
namespace L2
open PySem PySem.Spec PyProof.Rows SlX
/-- what a rich comparison sees of the other side: an instance, a tuple -/
def BTy (K : PySem.W.Frag) (H : Hp) (y : V) (tb : Value) : Prop := (∃ b dy gs C', y = .ref b ∧ H b = some (.ins C' dy gs) ∧ tb = .ref C') ∨ (∃ b zs, y = .ref b ∧ SqT K H b zs ∧ tb = .type "tuple") ∨ (∃ i, y = .int i ∧ tb = .type "int")
section
variable {X : Cx} {CX : CXT} {pins : List (Addr × Obj)} {σ : L2.St} {H : Hp} {s : Shared} {C g : Addr} {n : Nat} {sp : Sp} {E : XK} {y : V} {u tb : Value}
theorem BTy.looks (h : BTy X.K H y tb) (Iv : Inv X pins σ H s) (r : RelV y u) : PySem.W.Looks (model X.prog X.w) s.heap (typeOf u) tb := by
  rcases h with ⟨b, dy, gs, C', rfl, hb, rfl⟩ | ⟨b, zs, rfl, hb, rfl⟩ | ⟨i, rfl, rfl⟩
  · cases (show u = Value.ref b from r)
    obtain ⟨mB, J, _⟩ := ins_get Iv.hok hb
    obtain ⟨od, J, _⟩ := J.look
    exact J.type
  · cases (show u = Value.ref b from r)
    obtain ⟨its, rv, tu, _⟩ := Iv.tuple hb
    obtain ⟨o, e, c, _⟩ := (show s.heap.IsTuple b its.toArray from tu)
    exact fun A Q E s' k q => wpAny_typeOf_ref (k _ _ e) (by rw [c]; exact q)
  · obtain ⟨t, e⟩ := (show ∃ t, u = Value.int i t from r)
    cases e
    exact PySem.W.Looks.of_pure rfl
def rEqI (K : PySem.W.Frag) (C : Addr) (sp : Sp) (E : XK) : R2 := fun x y H Q => ∃ a dx fs tb, x = .ref a ∧ H a = some (.ins C dx fs) ∧ BTy K H y tb ∧ PySem.W.notFirst K C tb = true ∧ sp [x, y] H Q E
theorem op_eqI (hs : PySem.W.findIn X.K (.ref C) "__eq__" = some (some (.ref g))) (hf : PySem.W.isFn X.K (.ref g) = true) (F : FnR X.prog X.w X.K X.mg X.base CX n g sp) (hr : Room n X.A) (hx : Passes CX X E) : OpR X (compareOp .Eq) (rEqI X.K C sp E) := by
  intro pins s σ H x y v u Q Iv rx ry h
  obtain ⟨a, dx, fs, tb, rfl, ha, ht, hn, q⟩ := h
  cases (show v = Value.ref a from rx)
  obtain ⟨mA, J, _⟩ := ins_get Iv.hok ha
  obtain ⟨od, J, _⟩ := J.look
  obtain ⟨m, hF⟩ := Iv.fr
  show wpAny _ _ (richCompare .Eq (.ref a) u) _ _ _
  refine PySem.W.cmp_K (op := .Eq) (tb := tb) hr.units0 hF Iv.ok.mod.kin J (ht.looks Iv ry) hn hs hf ?_
  refine wpAny_mono (wpAny_call (run_fnR (us := [.ref a, u]) (vs := [.ref a, y]) F hr hx Iv (.cons rfl (.cons ry .nil)) q)) (fun w1 s1 z => ?_) fun _ _ x => x
  obtain ⟨z1, H1, I1, rz, qz⟩ := z
  exact cmpback rz ⟨z1, H1, I1, rz, qz⟩
def rNeI (K : PySem.W.Frag) (C : Addr) (sp : Sp) (E : XK) : R2 := fun x y H Q => ∃ a dx fs tb, x = .ref a ∧ H a = some (.ins C dx fs) ∧ BTy K H y tb ∧ PySem.W.notFirst K C tb = true ∧ sp [x, y] H (fun v H1 => ∃ b, v = .bl b ∧ Q (.bl (!b)) H1) E
theorem op_neI (hN : PySem.W.findIn X.K (.ref C) "__ne__" = some (some (.builtin "object.__ne__"))) (hs : PySem.W.findIn X.K (.ref C) "__eq__" = some (some (.ref g))) (hf : PySem.W.isFn X.K (.ref g) = true) (ho : PySem.W.subIn X.K (.ref C) (.type "object") = some true)
    (F : FnR X.prog X.w X.K X.mg X.base CX n g sp) (hr : Room (n + 1) X.A) (hx : Passes CX X E) : OpR X (compareOp .NotEq) (rNeI X.K C sp E) := by
  intro pins s σ H x y v u Q Iv rx ry h
  obtain ⟨a, dx, fs, tb, rfl, ha, ht, hn, q⟩ := h
  cases (show v = Value.ref a from rx)
  obtain ⟨mA, J, _⟩ := ins_get Iv.hok ha
  obtain ⟨od, J, _⟩ := J.look
  have hr1 : Room n X.A.in1 := Room.in1 hr
  have hb := ht.looks Iv ry
  have one : wpAny (model X.prog X.w) X.A (tryCompare (.ref a) "__ne__" u) (fun r s1 => ∃ b, r = some (.bool b) ∧ EP X pins σ Q (.bool b) s1) X.xe s := by
    refine PySem.W.tryNe Iv.kIn J hN hs hf ho (by have := hr1.units0; exact this) ?_
    refine wpAny_mono (wpAny_call (run_at (us := [.ref a, u]) (ws := [.ref a, y]) F hr1 Iv.env0.in1 hx Iv (.cons rfl (.cons ry .nil)) q)) (fun w1 s1 z => ?_) fun _ _ x => x
    obtain ⟨z1, H1, I1, rz, b, e, qz⟩ := z
    subst e
    cases (show w1 = Value.bool b from rz)
    exact ⟨b, rfl, ⟨_, rfl, .bl (!b), H1, I1, rfl, qz⟩⟩
  show wpAny _ _ (richCompare .NotEq (.ref a) u) _ _ _
  unfold richCompare
  simp only [oneThing_ref]
  refine wpAny_holding (wpAny_bind (wpAny_cRoomFor hr.units0 ?_))
  rw [cmpInfo_NotEq]
  dsimp only
  refine wpAny_bind (J.type.here (wpAny_bind (hb.here ?_)))
  have two : wpAny (model X.prog X.w) X.A (tryCompare (.ref a) "__ne__" u) (fun r s1 => ∃ b, r = some (.bool b) ∧ EP X pins σ Q (.bool b) s1) X.xe s := one
  split
  · rename_i q0
    have e : PySem.W.subIn X.K tb (.ref C) = some false := by
      rcases Bool.or_eq_true_iff.mp hn with e | e
      · rw [beq_iff_eq.mp e] at q0; simp at q0
      · exact beq_iff_eq.mp e
    refine wpAny_bind ((PySem.W.looks_subIn Iv.kIn e).here ?_)
    simp only [Bool.false_eq_true, if_false]
    refine wpAny_bind (wpAny_mono two (fun r s1 z => ?_) fun _ _ e => e)
    obtain ⟨b, rfl, hq⟩ := z
    exact wpAny_pure hq
  · refine wpAny_bind (wpAny_pure ?_)
    simp only [Bool.false_eq_true, if_false]
    refine wpAny_bind (wpAny_mono two (fun r s1 z => ?_) fun _ _ e => e)
    obtain ⟨b, rfl, hq⟩ := z
    exact wpAny_pure hq
end
end L2

set_option Elab.async false
set_option linter.all false
set_option maxRecDepth 100000
set_option maxHeartbeats 4000000
/-! one token is out: kept through a for over range(c) and a comprehension (e.replace of written texts asks for it) -/
namespace L2
open PySem PySem.Spec PyProof.Rows
section
variable {α : Type} {t : Sem α} {M : Model} {A : Around} {E E2 : Value → Shared → Prop} {s : Shared} {Q Q2 : α → Shared → Prop}
theorem thk (one : 1 ≤ s.toks) (h : wpAny M A t Q E s) (k : ∀ a s1, 1 ≤ s1.toks → Q a s1 → Q2 a s1) : wpAny M A t Q2 E s :=
  wpAny_mono (wpAny_toks_of one h) (fun a s1 q => k a s1 q.1 q.2) fun _ _ z => z.2
theorem thkF (one : 1 ≤ s.toks) (h : wpAny M A t Q (fun _ _ => False) s) (k : ∀ a s1, 1 ≤ s1.toks → Q a s1 → Q2 a s1) : wpAny M A t Q2 E2 s :=
  wpAny_mono (wpAny_toks_of one h) (fun a s1 q => k a s1 q.1 q.2) fun _ _ z => False.elim z.2
end
section
variable {X : Cx}
/-- what a for asks of its turns -/
def tForR (g : TG) (tb : TS) (D : Ends) (σ : St) : It → Hp → Prop := fun J G => ∃ W : Nat → Nat → St → Hp → Prop, (∃ m, W 0 m σ G) ∧ ∀ i m ρ G1, W i m ρ G1 →
  (J.stop i G1 ∧ D.nx ρ G1) ∨ (J.go i G1 ∧ ∃ N : St → Hp → Prop, (∀ ρ1 G2, N ρ1 G2 → ∃ m1, m1 < m ∧ W (i + 1) m1 ρ1 G2) ∧
    ∀ x G2, J.yld i G1 x G2 → g x ρ G2 fun ρ2 G3 => tb { D with nx := N, ct := N, bk := D.nx } ρ2 G3)
/-- for x in range(c): the written c is an int that is made -/
theorem ps_forT {c : Int} {j : Nat} {cp p pos fpos : Pos} {tg : Expr} {body : List Stmt} {g : TG} {tb : TS} (own : PassesOwn (model X.prog X.w) X.A X.env X.xe) (calm : X.calm = true) (hg : Gl X "range") (hm : X.mg "range" = none)
    (gg : PG X tg g) (hb : PSsT X body tb) (c0 : 0 ≤ c) (c1 : c < 2 ^ 62) (hs : starEach [.Constant (.int c) j cp] X.env = [(false, eval (.Constant (.int c) j cp) X.env)] := by rfl)
    (fo : ∀ x, foldedSetIterable (.Call (.Name "range" p) [.Constant (.int c) j cp] [] pos) X.env x = pure x := by intro _; rfl) :
    PS X (.For tg (.Call (.Name "range" p) [.Constant (.int c) j cp] [] pos) body [] fpos) (tFor (fun _ H R => R (Itr 0 c.toNat) H) g tb) := by
  refine ⟨fun pins s σ H D Iv h => ?_⟩
  have ev : ∀ R : It → Hp → Prop, R (Itr 0 c.toNat) H → wpAny (model X.prog X.w) X.A (eval (.Call (.Name "range" p) [.Constant (.int c) j cp] [] pos) X.env) (fun v s1 => 1 ≤ s1.toks ∧ wpAny (model X.prog X.w) X.A (pyIter v) (PIE X pins σ tg R) X.xe s1) X.xe s := fun R hR => by
    refine Call_ (ld_blt Iv hg hm boot_range (PyProof.Rows.callWith_type1 ?_ hs rfl))
    rw [hs]
    refine Calls.spliced_cons (wpAny_Constant_int (k := j) (pos := cp) (Calls.spliced_nil ?_))
    refine thk (by show 1 ≤ s.toks + 1; omega) (call_range_1 (range_it (Iv.tok _) (by omega) (by omega) (by omega) c1 ?_)) fun v s1 o q => ⟨o, q⟩
    have e : (c - 0).toNat = c.toNat := by omega
    rw [e]
    exact hR
  have rdy : tForR g tb D σ (Itr 0 c.toNat) H := h
  refine wpAny_For (thn (ev (tForR g tb D σ) rdy) fun v s1 ⟨o1, h1⟩ => thk o1 h1 fun itv s2 o2 h2 => ?_) fo
  obtain ⟨it, fp, tn, J, H2, rfl, I2, T, st2, f2, W, ⟨m0, w0⟩, turn⟩ := h2
  have stat : ∀ {G : Hp}, (∀ b ∈ fp, G b = none) → ∀ b ∈ fp, FpOk X pins G b := fun z b hb => ⟨z b hb, (f2 b hb).2⟩
  refine codeAny_forLoop_any (fun n s' => 1 ≤ s'.toks ∧ ∃ i ρ G, Inv X pins ρ G s' ∧ tn i s'.heap ∧ (∀ b ∈ fp, G b = none) ∧ W i n ρ G) ?_ m0 ⟨o2, 0, σ, H2, I2, st2, fun b hb => (f2 b hb).1, w0⟩
  rintro n s3 ⟨o3, i, σ3, H3, I3, st3, z3, w3⟩
  rcases turn i n σ3 H3 w3 with ⟨stop, fin⟩ | ⟨go, N, hN, step⟩
  · refine wpAny_passesOwn own (thn (T.done X rfl rfl rfl calm i pins s3 σ3 H3 X.xe I3 (stat z3) st3 stop) fun r s4 ⟨hr, I4⟩ => ?_)
    subst hr
    exact wpAny_execs_nil ⟨σ3, H3, I4, fin⟩
  · refine wpAny_passesOwn own (thk o3 (T.item X rfl rfl rfl calm i pins s3 σ3 H3 X.xe I3 (stat z3) st3 go) fun r s4 o4 ⟨u, hr, h4⟩ => ?_)
    subst hr
    refine wpAny_passesOwn own (thk o4 h4 fun _ s5 o5 ⟨x, H5, I5, r5, y5, st5, z5⟩ => ?_)
    have Ip := I5.pinned (stat z5) (T.obj _ _ st5)
    refine wpAny_passesOwn own (thk o5 (gg.run _ s5 σ3 H5 x u _ Ip r5 (step x H5 y5)) fun _ s6 o6 ⟨σ6, H6, I6, q6⟩ => ?_)
    refine wpAny_passesOwn own (thk o6 (hb _ s6 σ6 H6 _ o6 I6 q6) fun f s7 o7 q7 => ?_)
    have pinned : ∀ {ρ : St} {G : Hp}, Inv X (pins ++ pinsAt fp s5.heap) ρ G s7 → ∀ b ∈ fp, ∀ o, s5.heap.get? b = some o → s7.heap.get? b = some o ∧ G b = none := fun {ρ G} I7 b hb o e =>
      let z := I7.pin (b, o) (List.mem_append_right _ (List.mem_append_right _ (mem_pinsAt hb e)))
      ⟨z.1, z.2.1⟩
    have again : ∀ {ρ : St} {G : Hp}, Inv X (pins ++ pinsAt fp s5.heap) ρ G s7 → N ρ G → ∃ m, m < n ∧ 1 ≤ s7.toks ∧ ∃ i ρ G, Inv X pins ρ G s7 ∧ tn i s7.heap ∧ (∀ b ∈ fp, G b = none) ∧ W i m ρ G := fun {ρ G} I7 n7 => by
      obtain ⟨m1, lt, w7⟩ := hN ρ G n7
      refine ⟨m1, lt, o7, i + 1, ρ, G, I7.unpinned, T.keep _ _ _ st5 fun b hb o e => (pinned I7 b hb o e).1, fun b hb => ?_, w7⟩
      obtain ⟨o, e, _⟩ := T.obj _ _ st5 b hb
      exact (pinned I7 b hb o e).2
    cases f with
    | next => obtain ⟨ρ, G, I7, n7⟩ := q7; exact again I7 n7
    | cont => obtain ⟨ρ, G, I7, n7⟩ := q7; exact again I7 n7
    | brk => obtain ⟨ρ, G, I7, fin⟩ := q7; exact ⟨ρ, G, I7.unpinned, fin⟩
    | ret v => obtain ⟨x7, ρ, G, I7, r7, fin⟩ := q7; exact ⟨x7, ρ, G, I7.unpinned, r7, fin⟩
/-- name = [elt for target in iter], elt where one token is out -/
theorem pst_lcT {i : Nat} {y : Str} {py : Pos} {elt tg iter : Expr} {sco : Scope} {own : List (Str × Nat)} {pos spos : Pos} {wi : TI} {g : TG} {te : TE} (calm : X.calm = true) (nd : X.N.Nodup) (hy : X.N[i]? = some y) (hyl : X.env.scope.names.lookup y = some .local)
    (sw : swapsWith (.ListComp elt [⟨tg, iter, [], 0⟩] sco pos) (some (.Name y py)) spos.line X.env = pure true) (hi : PI X tg iter wi) (ok : BlkOk X.N X.env.scope sco own)
    (gg : ∀ (s : Shared) (H : Hp) (C : Addr) (cl : List (Str × Addr)) (fp : List Addr), PG (X.blk s H sco (compEnvC sco cl C X.env) fp) tg g)
    (ee : ∀ (s : Shared) (H : Hp) (C : Addr) (cl : List (Str × Addr)) (fp : List Addr), PET (X.blk s H sco (compEnvC sco cl C X.env) fp) elt te) (fo : ∀ x, foldedSetIterable iter X.env x = pure x := by intro _; rfl) :
    PST X (.Assign [.Name y py] (.ListComp elt [⟨tg, iter, [], 0⟩] sco pos) spos) (tAsg (tLc wi g tYes te (own.map (·.2))) (gName i)) := by
  intro pins s σ H D one Iv h
  rw [exec_Assign_Name_used _ _ _ _ sw]
  refine wpAny_bind (wpAny_standAt (wpAny_bind ?_))
  show wpAny _ X.A (do let _ ← comprehension (.ListComp elt [⟨tg, iter, [], 0⟩] sco pos) sco X.env (firstIterPos [⟨tg, iter, [], 0⟩] pos) (newList []) false (eval iter X.env) (some (assign (.Name y py) X.env))) _ _ s
  have h : tLc wi g tYes te (own.map (·.2)) σ H (fun x H1 => gName i x σ H1 D.nx) := h
  refine wpAny_bind (thn (Q := fun _ s1 => SP X pins D .next s1) ?_ fun _ s1 q => wpAny_pure (wpAny_pure q))
  have hfree : ∀ y ∈ sco.names, y.2 = .free → ∃ c, X.env.cells.lookup y.1 = some c := fun y hy e => (ok.free y hy e).elim (fun k => Iv.ok.has _ (.inl k)) fun k => Iv.ok.has _ (.inr k)
  refine wpAny_comprehension_free (use := some (assign (.Name y py) X.env)) rfl fo (closure_ok hfree) ok.kind (fun z hz e => by rw [ok.uniq z hz, e]) (thk one (hi.run pins s σ H _ Iv h) fun xv s1 o1 hx => thk o1 hx fun itv s2 o2 h2 => ?_)
  obtain ⟨it, fp, tn, J, H2, rfl, I2, T, st2, f2, q⟩ := h2
  refine wpAny_newObj_type (newEnv_comp ?_) (by show 0 ≤ sizeLine; decide)
  generalize hL : s2.heap.objs.size = L
  have nL : H2 L = none := I2.hok.fresh (Nat.le_of_eq hL)
  obtain ⟨W, ⟨m0, w0⟩, turn⟩ := q L nL
  generalize hs3 : ({ s2 with heap := s2.heap.push { cls := .type "list", data := .seq ([] : List Value).toArray } } : Shared) = s3
  have o3 : 1 ≤ s3.toks := by rw [← hs3]; exact o2
  have g3 : s3.heap = s2.heap.push { cls := .type "list", data := .seq ([] : List Value).toArray } := by rw [← hs3]
  have I3 : Inv X pins σ (upd H2 L (.lst [])) s3 := by
    rw [← hs3]
    refine I2.laid (t' := s2.toks) (fun b o e => Heap.get?_push_of_some _ e) (Nat.le_of_eq hL) ⟨Nat.zero_le _, [], 0, .nil, ?_⟩
    rw [← hL]; exact Heap.get?_push_size _ rfl
  have lt2 : ∀ b ∈ fp, b < s2.heap.objs.size := fun b hb => let ⟨_, e, _⟩ := T.obj _ _ st2 b hb; Heap.lt_size e
  have f3 : ∀ b ∈ fp, FpOk X pins (upd H2 L (.lst [])) b ∧ b < s3.heap.objs.size := fun b hb => by
    refine ⟨⟨?_, (f2 b hb).2⟩, by rw [g3, Heap.size_push]; exact Nat.lt_succ_of_lt (lt2 b hb)⟩
    rw [upd_ne (by rw [← hL]; exact Nat.ne_of_lt (lt2 b hb))]
    exact (f2 b hb).1
  have st3 : tn 0 s3.heap := T.keep _ _ _ st2 fun b _ o e => by rw [g3]; exact Heap.get?_push_of_some _ e
  have I4 := block_start I3 ok nd f3
  have pg := gg s3 (upd H2 L (.lst [])) s3.heap.objs.size (cellsFrom (s3.heap.objs.size + 1) sco.names (cloFrom X.env.cells sco.names [])) fp
  have pe := ee s3 (upd H2 L (.lst [])) s3.heap.objs.size (cellsFrom (s3.heap.objs.size + 1) sco.names (cloFrom X.env.cells sco.names [])) fp
  show codeAny _ _ (.compStart (.ListComp elt [⟨tg, iter, [], 0⟩] sco pos) 0 (.ref it) (.ref L) (compEnvC sco (cellsFrom (s3.heap.objs.size + 1) sco.names (cloFrom X.env.cells sco.names [])) s3.heap.objs.size X.env)) (compPost (model X.prog X.w) X.A X.xe (some (assign (.Name y py) X.env)) (fun _ s1 => SP X pins D .next s1) (.ref L) s3.heap.objs.size) { s3 with heap := pushCells (s3.heap.push { cls := .type "dict", data := .dict #[] }) sco.names }
  have z3 : ∀ b ∈ fp, (upd H2 L (.lst [])) b = none := fun b hb => (f3 b hb).1.1
  generalize hce : compEnvC sco (cellsFrom (s3.heap.objs.size + 1) sco.names (cloFrom X.env.cells sco.names [])) s3.heap.objs.size X.env = ce at I4 pg pe ⊢
  have cl : ce.locals = s3.heap.objs.size := by subst hce; rfl
  generalize hH3 : upd H2 L (.lst []) = H3 at I3 I4 pg pe w0 z3 f3
  generalize hs4 : ({ s3 with heap := pushCells (s3.heap.push { cls := .type "dict", data := .dict #[] }) sco.names } : Shared) = s4 at I4 ⊢
  have o4 : 1 ≤ s4.toks := by rw [← hs4]; exact o3
  have st4 : tn 0 s4.heap := T.keep _ _ _ st3 fun b _ o e => by rw [← hs4]; exact pushCells_keeps _ _ _ _ (Heap.get?_push_of_some _ e)
  have stat : ∀ {ρ : St} {G : Hp} {s' : Shared}, Inv (X.blk s3 H3 sco ce fp) [] ρ G s' → (∀ b ∈ fp, G b = none) → ∀ b ∈ fp, FpOk (X.blk s3 H3 sco ce fp) [] G b := fun {ρ G s'} I' z b hb =>
    ⟨z b hb, (I'.ok.exf b hb).1, I'.ok.exfs b hb, .inl hb, fun x c e => (I'.ok.exf b hb).2 x c e, fun p hp => absurd (show p ∈ ([] : List (Addr × Obj)) ++ [] from hp) (by simp)⟩
  have loop : codeAny (model X.prog X.w) X.A (.compLoop (.ListComp elt [⟨tg, iter, [], 0⟩] sco pos) 0 (.ref it) (.ref L) ce) (compPost (model X.prog X.w) X.A X.xe (some (assign (.Name y py) X.env)) (fun _ s1 => SP X pins D .next s1) (.ref L) s3.heap.objs.size) s4 := by
    refine compLoop_any (fun n s' => 1 ≤ s'.toks ∧ ∃ i G, Inv (X.blk s3 H3 sco ce fp) [] (wipe σ (own.map (·.2))) G s' ∧ tn i s'.heap ∧ (∀ b ∈ fp, G b = none) ∧ W i n G) ?_ m0 ⟨o4, 0, H3, I4, st4, z3, w0⟩
    rintro n s5 ⟨o5, k, H5, I5, st5, z5, w5⟩
    rcases turn k n H5 w5 with ⟨stop, fin⟩ | ⟨go, Nx, hNx, step⟩
    · refine thnF (T.done (X.blk s3 H3 sco ce fp) rfl rfl rfl calm k [] s5 _ H5 (fun _ _ => False) I5 (stat I5 z5) st5 stop) fun r s6 ⟨hr, I6⟩ => ?_
      subst hr
      have I7 : Inv X pins σ H5 s6 := I3.call' (ch := fp) I6.os I6.base I6.hok I6.bare fun b hb => ⟨(f3 b hb).1.2.2.2.1, (f3 b hb).1.2.1, (f3 b hb).1.2.2.2.2.1, (f3 b hb).1.2.2.2.2.2⟩
      have nC : H5 s3.heap.objs.size = none := by rw [← cl]; exact I6.free
      obtain ⟨m, ns, _⟩ := I6.loc
      have ns : s6.heap.Ns ce.locals m := ns
      rw [cl] at ns
      have f := I3.fpOk (Nat.le_refl _) nC
      show wpAny _ _ (assign (.Name y py) X.env (.ref L)) _ _ _
      refine wpAny_assign_Name (store_ok2 (v := V.ref L) I7 nd hy (.inl hyl) rfl (fun s8 I8 ⟨a, sb, ha⟩ => ?_) (.inr hyl))
      obtain ⟨f0, f1, f2, f3, f4, f5⟩ := f
      have ca : s3.heap.objs.size ≠ a := ha.elim (fun z => by rw [z]; exact f1) fun z e => f4 y a z e.symm
      exact ⟨m, ns.sameBut sb ca, fun h3 sb3 => ⟨_, H5, I8.turned (t' := s8.toks) (fun b o hb e => (sb3.2 b hb).trans e) f0 f1 f3 f4 f5, fin⟩⟩
    · refine thkF o5 (T.item (X.blk s3 H3 sco ce fp) rfl rfl rfl calm k [] s5 _ H5 (fun _ _ => False) I5 (stat I5 z5) st5 go) fun r s6 o6 ⟨u, hr, h6⟩ => ?_
      subst hr
      refine thkF o6 h6 fun _ s7 o7 ⟨x, H7, I7, r7, y7, st7, z7⟩ => ?_
      have Ip := I7.pinned (stat I7 z7) (T.obj _ _ st7)
      refine thkF o7 (pg.run _ s7 _ H7 x u _ Ip r7 (step x H7 y7)) fun _ s8 o8 ⟨σ8, H8, I8, hw8, q8⟩ => ?_
      have q8 : te σ8 H8 fun y H4 => ∃ acc, H4 L = some (.lst acc) ∧ acc.length < sizeLine ∧ Nx (upd H4 L (.lst (acc ++ [y]))) := q8
      refine wpAny_tests_nil ?_
      refine thkF o8 (pe _ s8 σ8 H8 _ o8 I8 q8) fun z s10 o10 ⟨yv, H10, I10, r10, acc, hD10, hz10, nx⟩ => ?_
      refine thkF o10 (app_ok (X := X.blk s3 H3 sco ce fp) (Q := fun _ s11 => Inv (X.blk s3 H3 sco ce fp) ([] ++ pinsAt fp s7.heap) σ8 (upd H10 L (.lst (acc ++ [yv]))) s11) I10 hD10 hz10 r10 fun s11 I11 => I11) fun _ s11 o11 I11 => ?_
      obtain ⟨m1, lt, w1⟩ := hNx _ nx
      have pinned : ∀ b ∈ fp, ∀ o, s7.heap.get? b = some o → s11.heap.get? b = some o ∧ (upd H10 L (.lst (acc ++ [yv]))) b = none := fun b hb o e =>
        let z := I11.pin (b, o) (List.mem_append_right _ (List.mem_append_right _ (mem_pinsAt hb e)))
        ⟨z.1, z.2.1⟩
      have len : (wipe σ (own.map (·.2))).length = σ8.length := by rw [← hw8, wipe_length]
      refine ⟨m1, lt, o11, k + 1, _, (I11.unpinned (pins := [])).weak len (fun j v e => ?_), T.keep _ _ _ st7 fun b hb o e => (pinned b hb o e).1, fun b hb => ?_, w1⟩
      · rw [← hw8] at e
        exact (wipe_some e).1
      · obtain ⟨o, e, _⟩ := T.obj _ _ st7 b hb
        exact (pinned b hb o e).2
  exact codeAny_compStart_list loop (T.self X.A 0 _ _ _ st4 loop)
end
end L2

set_option Elab.async false
set_option linter.all false
set_option maxRecDepth 100000
set_option maxHeartbeats 4000000
/-! loops over what is a list or a tuple, as it stood when the loop began -/
namespace L2
open PySem PySem.Spec PyProof.Rows
theorem SqE.same {K : PySem.W.Frag} {H G : Hp} {a : Addr} {xs : List V} (h : SqE K H a xs) (s : Same H G) : SqE K G a xs := h.elim (fun h => .inl (s.seq h)) fun h => .inr (SqT.ext h s)
theorem SqE.ix {K : PySem.W.Frag} {H : Hp} {a : Addr} {xs : List V} (h : SqE K H a xs) {i : Int} {j : Nat} {v : V} {Q : VK} (hi : i = (j : Int)) (hj : xs[j]? = some v) (q : Q v H) : rIx K (.ref a) (.int i) H Q :=
  h.elim (fun h => .inl ⟨a, xs, i, v, rfl, rfl, h, at_of hi hj, q⟩) fun h => .inr (.inl ⟨a, xs, i, v, rfl, rfl, h, at_of hi hj, q⟩)
section
variable {K : PySem.W.Frag} {a : Addr} {xs : List V} {g : TG} {H0 : Hp}
theorem enumE {tb : TS} {D : Ends} {σ : St} (hq : SqE K H0 a xs) (Pv : Nat → St → Hp → Prop) (same : ∀ i ρ H, Pv i ρ H → Same H0 H) (h0 : Pv 0 σ H0)
    (hs : ∀ i x ρ H T, xs[i]? = some x → Pv i ρ H → H T = none → g (.ref T) ρ (upd H T (.tup [.int (i : Nat), x])) fun ρ2 H2 => tb { D with nx := Pv (i + 1), ct := Pv (i + 1), bk := D.nx } ρ2 H2) (hd : ∀ ρ H, Pv xs.length ρ H → D.nx ρ H) :
    (SqL K H0 a xs ∧ tForR g tb D σ (Ite K a) H0) ∨ (SqT K H0 a xs ∧ tForR g tb D σ (Itf K a) H0) := by
  rcases hq with q | q
  · refine .inl ⟨q, fun i m ρ H => m = xs.length - i ∧ i ≤ xs.length ∧ Pv i ρ H, ⟨xs.length, by simp, Nat.zero_le _, h0⟩, ?_⟩
    rintro i m ρ H ⟨rfl, hi, p⟩
    have q1 := (same i ρ H p).seq q
    by_cases lt : i < xs.length
    · refine .inr ⟨⟨xs, xs[i], q1, by simp [lt]⟩, Pv (i + 1), fun ρ1 H1 p1 => ⟨xs.length - (i + 1), by omega, rfl, lt, p1⟩, fun x H1 y => ?_⟩
      obtain ⟨T, z, rfl, n, rfl, y⟩ := y
      exact hs i z ρ H T (y xs q1) p n
    · have e : i = xs.length := by omega
      subst e
      exact .inl ⟨⟨xs, q1, Nat.le_refl _⟩, hd ρ H p⟩
  · refine .inr ⟨q, fun i m ρ H => m = xs.length - i ∧ i ≤ xs.length ∧ Pv i ρ H, ⟨xs.length, by simp, Nat.zero_le _, h0⟩, ?_⟩
    rintro i m ρ H ⟨rfl, hi, p⟩
    have q1 := SqT.ext q (same i ρ H p)
    by_cases lt : i < xs.length
    · refine .inr ⟨⟨xs, xs[i], q1, by simp [lt]⟩, Pv (i + 1), fun ρ1 H1 p1 => ⟨xs.length - (i + 1), by omega, rfl, lt, p1⟩, fun x H1 y => ?_⟩
      obtain ⟨T, z, rfl, n, rfl, y⟩ := y
      exact hs i z ρ H T (y xs q1) p n
    · have e : i = xs.length := by omega
      subst e
      exact .inl ⟨⟨xs, q1, rfl⟩, hd ρ H p⟩
variable {tt : TT} {te : TE} {vs : List Nat} {σ : St} {Q : Addr → Hp → Prop}
/-- what a comprehension asks of its turns -/
def tLcR (g : TG) (tt : TT) (te : TE) (vs : List Nat) (σ : St) (Q : Addr → Hp → Prop) : It → Hp → Prop := fun J H1 => ∀ D, H1 D = none → ∃ W : Nat → Nat → Hp → Prop, (∃ m, W 0 m (upd H1 D (.lst []))) ∧ ∀ i m G, W i m G →
  (J.stop i G ∧ Q D G) ∨ (J.go i G ∧ ∃ Nx : Hp → Prop, (∀ G1, Nx G1 → ∃ m1, m1 < m ∧ W (i + 1) m1 G1) ∧ ∀ x G1, J.yld i G x G1 → g x (wipe σ vs) G1 fun σ2 H2 => wipe σ2 vs = wipe σ vs ∧ tt σ2 H2 fun b H3 =>
    if b = true then te σ2 H3 fun y H4 => ∃ acc, H4 D = some (.lst acc) ∧ acc.length < sizeLine ∧ Nx (upd H4 D (.lst (acc ++ [y]))) else Nx H3)
theorem lc_enumE (hq : SqE K H0 a xs) (Pv : Addr → Nat → Hp → Prop) (same : ∀ D i H, Pv D i H → Same H0 H) (h0 : ∀ D, H0 D = none → Pv D 0 (upd H0 D (.lst [])))
    (hs : ∀ D i x H T, H0 D = none → xs[i]? = some x → Pv D i H → H T = none → g (.ref T) (wipe σ vs) (upd H T (.tup [.int (i : Nat), x])) fun σ2 H2 => wipe σ2 vs = wipe σ vs ∧ tt σ2 H2 fun b H3 =>
      if b = true then te σ2 H3 fun y H4 => ∃ acc, H4 D = some (.lst acc) ∧ acc.length < sizeLine ∧ Pv D (i + 1) (upd H4 D (.lst (acc ++ [y]))) else Pv D (i + 1) H3)
    (hd : ∀ D H, H0 D = none → Pv D xs.length H → Q D H) :
    (SqL K H0 a xs ∧ tLcR g tt te vs σ Q (Ite K a) H0) ∨ (SqT K H0 a xs ∧ tLcR g tt te vs σ Q (Itf K a) H0) := by
  rcases hq with q | q
  · refine .inl ⟨q, fun D hD => ⟨fun i m H => m = xs.length - i ∧ i ≤ xs.length ∧ Pv D i H, ⟨xs.length, by simp, Nat.zero_le _, h0 D hD⟩, ?_⟩⟩
    rintro i m H ⟨rfl, hi, p⟩
    have q1 := (same D i H p).seq q
    by_cases lt : i < xs.length
    · refine .inr ⟨⟨xs, xs[i], q1, by simp [lt]⟩, Pv D (i + 1), fun H1 p1 => ⟨xs.length - (i + 1), by omega, rfl, lt, p1⟩, fun x H1 y => ?_⟩
      obtain ⟨T, z, rfl, n, rfl, y⟩ := y
      exact hs D i z H T hD (y xs q1) p n
    · have e : i = xs.length := by omega
      subst e
      exact .inl ⟨⟨xs, q1, Nat.le_refl _⟩, hd D H hD p⟩
  · refine .inr ⟨q, fun D hD => ⟨fun i m H => m = xs.length - i ∧ i ≤ xs.length ∧ Pv D i H, ⟨xs.length, by simp, Nat.zero_le _, h0 D hD⟩, ?_⟩⟩
    rintro i m H ⟨rfl, hi, p⟩
    have q1 := SqT.ext q (same D i H p)
    by_cases lt : i < xs.length
    · refine .inr ⟨⟨xs, xs[i], q1, by simp [lt]⟩, Pv D (i + 1), fun H1 p1 => ⟨xs.length - (i + 1), by omega, rfl, lt, p1⟩, fun x H1 y => ?_⟩
      obtain ⟨T, z, rfl, n, rfl, y⟩ := y
      exact hs D i z H T hD (y xs q1) p n
    · have e : i = xs.length := by omega
      subst e
      exact .inl ⟨⟨xs, q1, rfl⟩, hd D H hD p⟩
theorem lc_E (hq : SqE K H0 a xs) (Pv : Addr → Nat → Hp → Prop) (same : ∀ D i H, Pv D i H → Same H0 H) (h0 : ∀ D, H0 D = none → Pv D 0 (upd H0 D (.lst [])))
    (hs : ∀ D i x H, H0 D = none → xs[i]? = some x → Pv D i H → g x (wipe σ vs) H fun σ2 H2 => wipe σ2 vs = wipe σ vs ∧ tt σ2 H2 fun b H3 =>
      if b = true then te σ2 H3 fun y H4 => ∃ acc, H4 D = some (.lst acc) ∧ acc.length < sizeLine ∧ Pv D (i + 1) (upd H4 D (.lst (acc ++ [y]))) else Pv D (i + 1) H3)
    (hd : ∀ D H, H0 D = none → Pv D xs.length H → Q D H) :
    (SqL K H0 a xs ∧ tLcR g tt te vs σ Q (Itl K a) H0) ∨ (SqT K H0 a xs ∧ tLcR g tt te vs σ Q (Itt K a) H0) := by
  rcases hq with q | q
  · refine .inl ⟨q, fun D hD => ⟨fun i m H => m = xs.length - i ∧ i ≤ xs.length ∧ Pv D i H, ⟨xs.length, by simp, Nat.zero_le _, h0 D hD⟩, ?_⟩⟩
    rintro i m H ⟨rfl, hi, p⟩
    have q1 := (same D i H p).seq q
    by_cases lt : i < xs.length
    · refine .inr ⟨⟨xs, xs[i], q1, by simp [lt]⟩, Pv D (i + 1), fun H1 p1 => ⟨xs.length - (i + 1), by omega, rfl, lt, p1⟩, fun x H1 y => ?_⟩
      obtain ⟨e, y⟩ := y
      subst e
      exact hs D i x _ hD (y xs q1) p
    · have e : i = xs.length := by omega
      subst e
      exact .inl ⟨⟨xs, q1, Nat.le_refl _⟩, hd D H hD p⟩
  · refine .inr ⟨q, fun D hD => ⟨fun i m H => m = xs.length - i ∧ i ≤ xs.length ∧ Pv D i H, ⟨xs.length, by simp, Nat.zero_le _, h0 D hD⟩, ?_⟩⟩
    rintro i m H ⟨rfl, hi, p⟩
    have q1 := SqT.ext q (same D i H p)
    by_cases lt : i < xs.length
    · refine .inr ⟨⟨xs, xs[i], q1, by simp [lt]⟩, Pv D (i + 1), fun H1 p1 => ⟨xs.length - (i + 1), by omega, rfl, lt, p1⟩, fun x H1 y => ?_⟩
      obtain ⟨e, y⟩ := y
      subst e
      exact hs D i x _ hD (y xs q1) p
    · have e : i = xs.length := by omega
      subst e
      exact .inl ⟨⟨xs, q1, Nat.le_refl _⟩, hd D H hD p⟩
end
theorem enum_read {K : PySem.W.Frag} {i : Nat} {a : Addr} {xs : List V} {σ : St} {H : Hp} {R : It → Hp → Prop} (hσ : σ[i]? = some (some (.ref a))) (h : (SqL K H a xs ∧ R (Ite K a) H) ∨ (SqT K H a xs ∧ R (Itf K a) H)) :
    iEnum K (tCons (tVar i) tNil) σ H R ∨ iEnumF K (tCons (tVar i) tNil) σ H R :=
  h.elim (fun h => .inl ⟨_, hσ, a, xs, rfl, h.1, h.2⟩) fun h => .inr ⟨_, hσ, a, xs, rfl, h.1, h.2⟩
theorem seq_read {K : PySem.W.Frag} {i : Nat} {a : Addr} {xs : List V} {σ : St} {H : Hp} {R : It → Hp → Prop} (hσ : σ[i]? = some (some (.ref a))) (h : (SqL K H a xs ∧ R (Itl K a) H) ∨ (SqT K H a xs ∧ R (Itt K a) H)) :
    iList K (tVar i) σ H R ∨ iTup K (tVar i) σ H R :=
  h.elim (fun h => .inl ⟨_, hσ, a, rfl, ⟨xs, h.1⟩, h.2⟩) fun h => .inr ⟨_, hσ, a, rfl, ⟨xs, h.1⟩, h.2⟩
/-- a pair as a comprehension's target: K told -/
theorem pg_tupK {X : Cx} {K : PySem.W.Frag} {es : List Expr} {k : Nat} {t : TGs} {n : Nat} {pos : Pos} (hK : X.K = K) (hc : X.calm = true) (h : PGs X es t)
    (hn : (assignEach es X.env).length = n := by rfl) (hst : (assignEach es X.env).findIdx? (·.1) = none := by rfl) : PG X (.Tuple es k pos) (gTup K n t) := by
  subst hK
  exact pg_tup hc h hn hst
theorem CallR.imp {X : Cx} {f : Value} {r q : List V → Hp → VK → Prop} (h : CallR X f r) (i : ∀ xs H Q, q xs H Q → r xs H Q) : CallR X f q := fun pins s σ H xs us Q I rs hq => h pins s σ H xs us Q I rs (i xs H Q hq)
theorem same_new' {H : Hp} {p : Addr} {o : HO} (h : H p = none) : Same H (upd H p o) := fun b u e => by rw [upd_ne (ne_of_none e h)]; exact e
/-- tuple(x), x a list or a tuple -/
theorem call_tupE {X : Cx} : CallR X (.type "tuple") (fun xs H Q => ∃ a ys, xs = [.ref a] ∧ SqE X.K H a ys ∧ ∀ p G, Same H G → SqT X.K G p ys → Q (.ref p) G) :=
  CallR.imp call_tuple_of fun xs H Q h => by
    obtain ⟨a, ys, e, h, q⟩ := h
    refine ⟨a, ys, e, ?_⟩
    rcases h with h | h
    · exact .inl ⟨h, fun l nl => q l _ (same_new' nl) (SqT.of upd_same)⟩
    · exact .inr ⟨h, q a H (Same.refl H) h⟩
/-- max(x), x a list or a tuple of whole numbers -/
theorem cr_maxE {X : Cx} (hc : X.calm = true) : CallR X (.builtin "max") (fun xs H Q => ∃ (a : Addr) (ns : List Int), xs = [.ref a] ∧ SqE X.K H a (ns.map V.int) ∧ 0 < ns.length ∧ ∀ m, m ∈ ns → (∀ y, y ∈ ns → y ≤ m) → Q (.int m) H) :=
  CallR.imp (cr_or (cr_max hc) (cr_maxT hc)) fun xs H Q h => by
    obtain ⟨a, ns, e, h, n, q⟩ := h
    rcases h with h | h
    · exact .inl ⟨a, ns, e, h, n, q⟩
    · exact .inr ⟨a, ns, e, h, n, q⟩
end L2

set_option Elab.async false
set_option linter.all false
set_option maxRecDepth 100000
set_option maxHeartbeats 4000000
/-! Exceptions of the program as values: made, their fields read, asked by isinstance. -/
namespace XV
open PySem PySem.Spec PyProof.Rows L2
section
variable {X : Cx} {e : Expr} {es : List Expr} {te : TE} {ta : TA} {x : Str} {p1 p2 pos : Pos}
/-- what the written part says of the base class of the errors, at CJ: its __init__ is ValueError's -/
structure BaseC (K : PySem.W.Frag) (CJ : Addr) : Prop where
  rd : PySem.W.readsIn K CJ (.type "type") = true
  ga : PySem.W.specialIn K (.ref CJ) "__getattribute__" = some (some (.builtin "type.__getattribute__"))
  ini : PySem.W.findCls K (.ref CJ) (.type "type") "__init__" = some (.val (.builtin "ValueError.__init__"))
/-- B.__init__(self, ..), B an own class over ValueError without an __init__ of its own -/
theorem pe_binit {CJ : Addr} {pl : Sem Bool} (B : BaseC X.K CJ) (hg : Gl X x) (hm : X.mg x = some (.ref CJ)) (ha : PA X (e :: es) ta)
    (hdb : (x == ("__debug__" : Str)) = false := by decide)
    (hc : eval (.Call (.Attribute (.Name x p1) "__init__" p2) (e :: es) [] pos) X.env = (do
      let ov ← eval (.Name x p1) X.env
      standAt p2.atName
      let (f, first) ← holding [ov] (getMethod ov "__init__" pl)
      callWith pos f first (backTo pos (starEach (e :: es) X.env)) (backToKw pos (keywordEach [] X.env))) := by rfl)
    (he : starEach (e :: es) X.env = (false, eval e X.env) :: starEach es X.env := by rfl) (hpl : (backTo pos (starEach es X.env)).any (·.1) = false := by rfl) :
    PE X (.Call (.Attribute (.Name x p1) "__init__" p2) (e :: es) [] pos) (tVeI X.K ta) := by
  refine ⟨fun pins s σ H Q I h => PySem.W.methodCall_KW (ld_glob I hg hm (PySem.W.method_cls I.kIn B.ga (PySem.W.cls_value I.kIn B.rd B.ini (by decide +kernel) ?_)) hdb) hc⟩
  refine PyProof.Rows.callWith_method1 (thn (ha.run pos pins _ σ H _ (I.tok _) h) fun us s1 ⟨vs, H1, I1, r1, a, C, ws, ev, hl, T, ea, q⟩ => ?_) he hpl
  subst ev
  cases r1 with
  | @cons _ u0 _ ur ra rw' =>
    obtain rfl : u0 = Value.ref a := ra
    have hlen : ur.length ≤ sizeLine := by
      rw [← Paired.length rw', sizeLine_eq]; omega
    exact oinit_ok T I1 ea hlen fun s' J => ⟨.non, H1, J, rfl, q⟩
end
end XV

set_option Elab.async false
set_option linter.all false
set_option maxRecDepth 100000
set_option maxHeartbeats 4000000
/-! an own error class called with keywords: type.__call__, BaseException.__new__, then its own __init__ -/
namespace XV
open PySem PySem.Spec PySem.HandSPX PySem.Calls
open Builtin Builtin.ObjectAttr
section
variable {M : Model} {prog : Program} {w : World} {A : Around} {E : Value → Shared → Prop} {R : Result → Shared → Prop} {hp : Heap} {gs : Array GenState} {dr : Drawn} {tk : Nat} {os : OsState}
variable {nm q : Str} {C N : Addr} {bs bm bmB : List Value} {hdct : Bool} {sn : List Str} {sub : List Value} {ab : Bool} {col : Option Bool} {dd : Option Addr} {k0 k1 k2 k3 k5 : Option Value} {B newId initId : String}
variable {vs : List Value} {kw : List (Str × Value)}
theorem newCheckK (F : ExcBaseFacts B newId initId bmB) (tl : ∀ X : String, bm.contains (.type X) = bmB.contains (.type X)) {Q : Unit → Shared → Prop}
    (oC : hp.get? C = some (excClassObj nm q C N bs bm hdct sn sub ab col dd k0 k1 k2 k3 k5 newId)) (hq : Q () ⟨hp, gs, dr, tk, os⟩) :
    wpAny M A (checkBuiltinCall newId ⟨.ref C :: vs, kw⟩) Q E ⟨hp, gs, dr, tk, os⟩ := by
  have c1 : (Value.ref C :: bm).contains (.type B) = true := by rw [List.contains_cons, tl, F.hasB, Bool.or_true]
  have c2 := F.noStar
  simp only [checkBuiltinCall, F.newKind, F.newSplit, F.newRow]
  repeat (first
    | refine wpAny_loadPart_at oC ?_
    | (refine wpAny_isSubtype_exc oC ?_; rw [c1])
    | refine wpAny_staticBase_exc oC ?_
    | refine wpAny_madeBy_exc oC ?_
    | simp only [bne_self_eq_false, Bool.false_eq_true, if_false]
    | wp_step)
  exact hq
theorem newK (F : ExcBaseFacts B newId initId bmB) (tl : ∀ X : String, bm.contains (.type X) = bmB.contains (.type X))
    (oC : hp.get? C = some (excClassObj nm q C N bs bm hdct sn sub ab col dd k0 k1 k2 k3 k5 newId))
    (hq : R (.ok (.ret (.ref (hp.objs.size + 1)))) ⟨(hp.push (W.kdv_tup vs)).push (excO C hp.objs.size), gs, dr, tk, os⟩) (hl : vs.length ≤ sizeLine) :
    codeAny (model prog w) A (.builtin newId ⟨.ref C :: vs, kw⟩) R ⟨hp, gs, dr, tk, os⟩ := by
  have en := F.ends
  have cB : (Value.ref C :: bm).contains (.type B) = true := by rw [List.contains_cons, tl, F.hasB, Bool.or_true]
  have cA : (Value.ref C :: bm).contains (.type "AttributeError") = false := by
    rw [List.contains_cons, tl, F.noAttr]; rfl
  have cN : (Value.ref C :: bm).contains (.type "NameError") = false := by
    rw [List.contains_cons, tl, F.noName]; rfl
  refine codeAny_builtinAt F.entry ?_
  unfold Builtin.«BaseException.__new__»
  refine wpAt_bind ?_
  show wpAt _ _ _ (stack >>= _) _ _ _
  refine wpAt_bind (wpAt_stack fun p below => wpAt_of_wpAny ?_)
  wp_walk
  refine wpAt_of_wpAny ?_
  rw [F.owner]
  repeat (first
    | with_reducible refine wpAny_madeHere_exc F.canon oC ?_
    | with_reducible refine wpAny_loadPart_at oC ?_
    | (with_reducible refine wpAny_isSubtype_exc oC ?_; first | rw [cB] | rw [cA] | rw [cN])
    | wp_step)
  show R _ _
  rw [Heap.size_push]
  exact hq
theorem typeCallK (F : ExcBaseFacts B newId initId bmB) (tl : ∀ X : String, bm.contains (.type X) = bmB.contains (.type X)) {fI : Addr} {Q : Fin → Shared → Prop}
    (oC : hp.get? C = some (excClassObj nm q C N bs bm hdct sn sub ab col dd k0 k1 k2 k3 k5 newId))
    (li : W.Looks (model prog w) hp (typeLookup (.ref C) "__init__") (some (.ref fI))) (lb : ∀ self, W.Looks (model prog w) hp (bindSpecial (.ref fI) self) (.ref fI, [self])) (hl : vs.length ≤ sizeLine)
    (hq : codeAny (model prog w) A (.call (.ref fI) ⟨.ref (hp.objs.size + 1) :: vs, kw⟩)
      (fun r s' => match r with | .ok (.ret v) => v = .none ∧ Q (.done (.ret (.ref (hp.objs.size + 1)))) s' | .ok _ => False | .error e => E e s')
      ⟨(hp.push (W.kdv_tup vs)).push (excO C hp.objs.size), gs, dr, tk, os⟩) :
    wpAny (model prog w) A (Builtin.«type.__call__» ⟨.ref C :: vs, kw⟩) Q E ⟨hp, gs, dr, tk, os⟩ := by
  repeat (first | with_reducible refine wpAny_loadPart_at oC ?_ | with_reducible refine wpAny_madeBy_exc oC ?_ | wp_step)
  refine codeAny_call_builtin_code (Code.quiet_builtin _ F.quiet) (newCheckK F tl oC ?_)
  refine newK F tl oC ?_ hl
  show wpAny _ _ _ _ _ _
  have kp : ∀ b o, hp.get? b = some o → ((hp.push (W.kdv_tup vs)).push (excO C hp.objs.size)).get? b = some o := fun b o e =>
    Heap.get?_push_of_some _ (Heap.get?_push_of_some _ e)
  have oC1 := kp _ _ oC
  have oX : ((hp.push (W.kdv_tup vs)).push (excO C hp.objs.size)).get? (hp.objs.size + 1) = some (excO C hp.objs.size) := by heap_get
  have cC : (Value.ref C :: bm).contains (.ref C) = true := by simp
  have l1 := li.keeps kp
  have l2 := (lb (.ref (hp.objs.size + 1))).keeps kp
  unfold isInstance
  repeat (first | with_reducible refine wpAny_loadPart_at oX ?_ | (with_reducible refine wpAny_isSubtype_exc oC1 ?_; rw [cC]) | wp_step)
  show wpAny _ _ (typeLookup (.ref C) _) _ _ _
  refine l1.at ?_
  refine wpAny_holding (wpAny_bind (l2.at ?_))
  refine wpAny_bind (wpAny_call (codeAny_mono hq fun r s' z => ?_))
  rcases r with e | (v | _ | _ | _) <;> first | exact z | exact z.elim | skip
  obtain ⟨rfl, z⟩ := z
  first
    | exact wpAny_pure (wpAny_pure z)
    | (wp_walk; exact z)
theorem callK (F : ExcBaseFacts B newId initId bmB) (tl : ∀ X : String, bm.contains (.type X) = bmB.contains (.type X)) {fI : Addr}
    (oC : hp.get? C = some (excClassObj nm q C N bs bm hdct sn sub ab col dd k0 k1 k2 k3 k5 newId))
    (li : W.Looks (model prog w) hp (typeLookup (.ref C) "__init__") (some (.ref fI))) (lb : ∀ self, W.Looks (model prog w) hp (bindSpecial (.ref fI) self) (.ref fI, [self])) (hl : vs.length ≤ sizeLine)
    (hq : codeAny (model prog w) (A.under (.builtin "type.__call__" ⟨.ref C :: vs, kw⟩)) (.call (.ref fI) ⟨.ref (hp.objs.size + 1) :: vs, kw⟩) (W.InitBack (hp.objs.size + 1) R)
      ⟨(hp.push (W.kdv_tup vs)).push (excO C hp.objs.size), gs, dr, tk, os⟩) :
    codeAny (model prog w) A (.call (.ref C) ⟨vs, kw⟩) R ⟨hp, gs, dr, tk, os⟩ := by
  have f1 := tc_lookup
  have f2 := tc_bind (.ref C)
  have ty : (⟨hp, gs, dr, tk, os⟩ : Shared).TypeIs (.ref C) "type" := ⟨_, oC, rfl⟩
  refine codeAny_of_tree ?_
  show wpAny _ _ (callAny (.ref C) _) _ _ _
  repeat (any_goals (first | assumption | with_reducible refine wpAny_loadPart_at oC ?_ | wp_step))
  refine ⟨rfl, ?_⟩
  refine codeAny_call_builtin_at (Code.quiet_builtin _ (by decide +kernel)) entry_typeCall (wpAny_check_type_call_sub oC (typeCallK F tl oC li lb hl ?_))
  refine codeAny_mono hq fun r s' z => ?_
  rcases r with e | (v | _ | _ | _) <;> exact z
end
end XV

set_option Elab.async false
set_option linter.all false
set_option maxRecDepth 100000
set_option maxHeartbeats 4000000
/-! own errors with an __init__ of their own, made as values -/
namespace XV
open PySem PySem.Spec PyProof.Rows L2
/-- what the written part says of an error class at C: its own __init__ at fI -/
structure ErrC (K : PySem.W.Frag) (C fI : Addr) : Prop where
  T : OexC K C
  iC : PySem.W.findIn K (.ref C) "__init__" = some (some (.ref fI))
  tI : PySem.W.typeIn K (.ref fI) = some (.type "function")
section
variable {X : Cx} {CX : CXT} {k n : Nat} {C fI : Addr} {fd : FuncData} {ps ks : List Str} {sp : Sp} {E : XK} {x : Str} {p pos : Pos} {e : Expr} {es : List Expr} {kws : List Keyword} {ta tk : TA} {g : List Value → List Value → List Value} {gV : List V → List V → List V}
theorem run_err {pins : List (Addr × Obj)} {σ : L2.St} {H : Hp} {s : Shared} {Q : VK} {us ws : List Value} {vs zs : List V} (D : ErrC X.K C fI) (F : FnOk X.prog X.w X.K X.mg X.base CX k fI fd ps sp) (hr : Room (k + 1) X.A)
    (hb : KBn X.K fd ps (n + 1) ks g gV) (hx : Passes CX X E) (I : Inv X pins σ H s) (r : Vals vs us) (rz : Vals zs ws) (l1 : vs.length = n) (l2 : zs.length = ks.length) (ln : n ≤ 1000)
    (h : ∀ a, H a = none → sp (gV (.ref a :: vs) zs) (upd H a (exo a C none)) (fun v H2 => v = .non ∧ Q (.ref a) H2) E) :
    wpAny (model X.prog X.w) X.A (call (.ref C) us (ks.zip ws)) (EP X pins σ Q) X.xe s := by
  obtain ⟨nm, q, N, bs, bm, sn, sub, ab, col, dd, k0, k1, k2, k3, k5, oC, mC⟩ := D.T.cls
  obtain ⟨hp, gs, dr, t0, os⟩ := s
  have old : ∀ b o, hp.get? b = some o → ((hp.push (PySem.W.kdv_tup us)).push (PySem.HandSPX.excO C hp.objs.size)).get? b = some o := fun b o z =>
    Heap.get?_push_of_some _ (Heap.get?_push_of_some _ z)
  have new : ((hp.push (PySem.W.kdv_tup us)).push (PySem.HandSPX.excO C hp.objs.size)).get? (hp.objs.size + 1) = some (PySem.HandSPX.excO C hp.objs.size) := by heap_get
  have sz : hp.objs.size ≤ hp.objs.size + 1 := Nat.le_succ _
  have hq := h (hp.objs.size + 1) (I.hok.fresh sz)
  have I2 := I.laid (t' := t0) (a := hp.objs.size + 1) (o := exo (hp.objs.size + 1) C none) (h' := (hp.push (PySem.W.kdv_tup us)).push (PySem.HandSPX.excO C hp.objs.size)) old sz (exo_ok new)
  have r1 : Vals (V.ref (hp.objs.size + 1) :: vs) (Value.ref (hp.objs.size + 1) :: us) := .cons rfl r
  have e1 : (Value.ref (hp.objs.size + 1) :: us).length = n + 1 := r1.length.symm.trans (congrArg Nat.succ l1)
  have e2 : ws.length = ks.length := rz.length.symm.trans l2
  have hus : us.length ≤ sizeLine := by
    rw [← Paired.length r, l1, sizeLine_eq]; omega
  refine wpAny_call (callK PySem.F.excBase_ValueError (fun Y => PySem.HandSPX.refsVE_contains Y bm mC) (I.kIn _ _ oC) (PySem.W.looks_findIn I.kIn D.iC) (fun self => PySem.W.bind_fn I.kIn self D.tI) hus ?_)
  refine codeAny_mono (F.run _ X.stack _ _ ⟨Value.ref (hp.objs.size + 1) :: us, ks.zip ws⟩ (g (Value.ref (hp.objs.size + 1) :: us) ws) _ _ E (hr.make C us (ks.zip ws)) (I2.env0.make C us (ks.zip ws))
    (hb.to _ _ ws I2.kIn e1 e2) (hb.rel r1 rz) hq) fun res s' z => ?_
  cases res with
  | error er => exact hx pins σ _ _ er s' I2 z
  | ok fl =>
    cases fl with
    | ret u =>
      obtain ⟨v, H2, I3, rv, ev, q3⟩ := I2.after z
      subst ev
      exact ⟨rv, ⟨V.ref (hp.objs.size + 1), H2, I3, rfl, q3⟩⟩
    | next => exact False.elim z
    | brk => exact False.elim z
    | cont => exact False.elim z
/-- C(e, ..) -/
def tErr (C : Addr) (n : Nat) (sp : Sp) (gV : List V → List V → List V) (E : XK) (ta : TA) : TE := fun σ H Q => ta σ H fun vs H1 => vs.length = n ∧
  ∀ a, H1 a = none → sp (gV (.ref a :: vs) []) (upd H1 a (exo a C none)) (fun v H2 => v = .non ∧ Q (.ref a) H2) E
/-- C(k = e, ..) -/
def tErrK (C : Addr) (m : Nat) (sp : Sp) (gV : List V → List V → List V) (E : XK) (tk : TA) : TE := fun σ H Q => tk σ H fun zs H1 => zs.length = m ∧
  ∀ a, H1 a = none → sp (gV [.ref a] zs) (upd H1 a (exo a C none)) (fun v H2 => v = .non ∧ Q (.ref a) H2) E
theorem pe_err (D : ErrC X.K C fI) (F : FnOk X.prog X.w X.K X.mg X.base CX k fI fd ps sp) (hr : Room (k + 1) X.A) (hg : Gl X x) (hm : X.mg x = some (.ref C)) (hb : KBn X.K fd ps (n + 1) [] g gV) (hx : Passes CX X E) (ha : PA X (e :: es) ta) (ln : n ≤ 1000)
    (hdb : (x == ("__debug__" : Str)) = false := by decide) (he : starEach (e :: es) X.env = (false, eval e X.env) :: starEach es X.env := by rfl) (hpl : (backTo pos (starEach es X.env)).any (·.1) = false := by rfl) :
    PE X (.Call (.Name x p) (e :: es) [] pos) (tErr C n sp gV E ta) :=
  ⟨fun pins s σ H Q I h => wpAny_Call_Name_kw (ld_glob I hg hm (PySem.W.callWith_K (h₀ := X.base) I.ok.mod.kin D.T.kC
    (thn (ha.run pos pins s σ H _ I h) fun us s1 ⟨vs, H1, I1, r, l1, q⟩ => ⟨I1.kIn, run_err (ws := []) (zs := []) D F hr hb hx I1 r .nil l1 rfl ln q⟩) he hpl) hdb)⟩
theorem pe_err0 (D : ErrC X.K C fI) (F : FnOk X.prog X.w X.K X.mg X.base CX k fI fd ps sp) (hr : Room (k + 1) X.A) (hg : Gl X x) (hm : X.mg x = some (.ref C)) (hb : KBn X.K fd ps 1 [] g gV) (hx : Passes CX X E) (hdb : (x == ("__debug__" : Str)) = false := by decide) :
    PE X (.Call (.Name x p) [] [] pos) (tErr C 0 sp gV E tNil) :=
  ⟨fun pins s σ H Q I h => wpAny_Call_Name_kw (ld_glob I hg hm (PySem.W.callWith_K0 I.kIn D.T.kC (run_err (us := []) (vs := []) (ws := []) (zs := []) D F hr hb hx I .nil .nil rfl rfl (Nat.zero_le _) h.2)) hdb)⟩
theorem pe_errK (D : ErrC X.K C fI) (F : FnOk X.prog X.w X.K X.mg X.base CX k fI fd ps sp) (hr : Room (k + 1) X.A) (hg : Gl X x) (hm : X.mg x = some (.ref C)) (hb : KBn X.K fd ps 1 ks g gV) (hx : Passes CX X E) (hkw : PK X kws tk)
    (hall : (backToKw pos (keywordEach kws X.env)).all (·.1.isSome) = true := by rfl) (hks : (backToKw pos (keywordEach kws X.env)).filterMap (·.1) = ks := by rfl) (hdb : (x == ("__debug__" : Str)) = false := by decide)
    (hpl : ((backTo pos (starEach [] X.env)).any (·.1) || (backToKw pos (keywordEach kws X.env)).any (·.1.isNone)) = false := by rfl) :
    PE X (.Call (.Name x p) [] kws pos) (tErrK C ks.length sp gV E tk) := by
  refine ⟨fun pins s σ H Q I h => wpAny_Call_Name_kw (ld_glob I hg hm (PySem.W.callWith_KW0 (h₀ := X.base) I.ok.mod.kin D.T.kC hall (thn (hkw.run pos pins s σ H _ I h) fun ws s1 ⟨zs, H1, I1, rz, l2, q⟩ => ⟨I1.kIn, ?_⟩) hpl) hdb)⟩
  rw [hks]
  exact run_err (us := []) (vs := []) D F hr hb hx I1 .nil rz rfl l2 (Nat.zero_le _) q
end
end XV

set_option Elab.async false
set_option linter.all false
set_option maxRecDepth 100000
set_option maxHeartbeats 4000000
/-! errors as values: a field read, isinstance; repr of a list of small data -/
namespace XV
open PySem PySem.Spec PyProof.Rows L2
/-- what the class at D must say, so that its instances' fields are read and isinstance asks them -/
structure ErrR (K : PySem.W.Frag) (D : Addr) : Prop where
  ga : PySem.W.findIn K (.ref D) "__getattribute__" = some (some (.builtin "BaseException.__getattribute__"))
  gt : PySem.W.findIn K (.ref D) "__getattr__" = some none
  sb : PySem.W.subIn K (.ref D) (.type "BaseException") = some true
  hd : PySem.W.hasDictIn K D = true
  ca : PySem.W.findIn K (.ref D) "__class__" = some (some (.builtin "object.__class__"))
  cg : PySem.W.specialIn K (.builtin "object.__class__") "__get__" = some (some (.builtin "getset_descriptor.__get__"))
  ct : PySem.W.takesIn K (.builtin "object.__class__") = some true
  mo : PySem.W.mroIn K D (.type "object") = some true
theorem ErrR.cl {K : PySem.W.Frag} {D : Addr} (R : ErrR K D) : (PySem.W.clsIn K D).isSome = true := by
  obtain ⟨cd, h, _⟩ := PySem.W.any_some R.hd
  rw [h]; rfl
/-- an error of the class at D stands at a, with the fields fs -/
def ErrAt (H : Hp) (a D : Addr) (fs : List (Str × V)) : Prop :=
  (fs = [] ∧ H a = some (exo a D none)) ∨ ∃ dx, H a = some (exo a D (some dx)) ∧ H dx = some (exd dx fs)
theorem ErrAt.same {H H' : Hp} {a D : Addr} {fs : List (Str × V)} (h : ErrAt H a D fs) (s : Same H H') : ErrAt H' a D fs := by
  rcases h with ⟨e, h⟩ | ⟨dx, h1, h2⟩
  · exact .inl ⟨e, s _ _ h⟩
  · exact .inr ⟨dx, s _ _ h1, s _ _ h2⟩
section
variable {X : Cx} {pins : List (Addr × Obj)} {σ : L2.St} {H : Hp} {s : Shared} {e : Expr} {te : TE} {pos : Pos} {n : Str}
theorem ErrAt.inst {a D : Addr} {fs : List (Str × V)} (I : Inv X pins σ H s) (h : ErrAt H a D fs) :
    ∃ ox od, PySem.W.InstAt s.heap a ox D od ∧ ∀ f v, fs.lookup f = some v → ∃ u o, RelV v u ∧ od = some o ∧ PySem.W.lookIn f o = some (some u) := by
  rcases h with ⟨rfl, h⟩ | ⟨dx, h1, h2⟩
  · obtain ⟨t1, ho⟩ := exo_at I.hok h
    exact ⟨_, none, ⟨ho, rfl, rfl, trivial⟩, fun f v z => by cases z⟩
  · obtain ⟨t1, ho⟩ := exo_at I.hok h1
    obtain ⟨mA, hns, rel⟩ := exd_at I.hok h2
    obtain ⟨od, hod, hl⟩ := lookIn_ns hns
    refine ⟨_, some od, ⟨ho, rfl, rfl, hod⟩, fun f v z => ?_⟩
    obtain ⟨u, hu, ru⟩ := RelO.some_of (v := v) (o := mA f) (by rw [← z]; exact rel f)
    exact ⟨u, od, ru, rfl, by rw [hl, hu]⟩
/-- e.f, e an error -/
def tEfld (K : PySem.W.Frag) (f : Str) (te : TE) : TE := fun σ H Q => te σ H fun x H1 => ∃ (a D : Addr) (fs : List (Str × V)) (v : V), x = .ref a ∧ ErrAt H1 a D fs ∧ ErrR K D ∧ PySem.W.findIn K (.ref D) f = some none ∧ fs.lookup f = some v ∧ Q v H1
theorem pe_efld (he : PE X e te) (hb : attributeBase e n X.env (eval e X.env) = eval e X.env := by rfl) : PE X (.Attribute e n pos) (tEfld X.K n te) := by
  refine ⟨fun pins s σ H Q I h => attr_of hb (thn (he.run pins s σ H _ I h) fun u s1 ⟨x, H1, I1, rx, a, D, fs, v, ex, ea, R, no, lk, q⟩ => ?_)⟩
  subst ex
  obtain rfl : u = Value.ref a := rx
  obtain ⟨ox, od, J, rd⟩ := ea.inst I1
  obtain ⟨w', o, rw', rfl, hl⟩ := rd n v lk
  exact PySem.HandSPX.exc_get I1.kIn J R.ga R.gt R.sb (PySem.W.findObj_own R.hd no rfl hl) (handed_of rw') ⟨v, H1, I1.tok _, rw', q⟩
/-- isinstance(e, c), e an error -/
def rIsV (K : PySem.W.Frag) : List V → Hp → VK → Prop := fun xs H Q => ∃ (a D : Addr) (fs : List (Str × V)) (c : V) (cv : Value) (b : Bool), xs = [.ref a, c] ∧ ErrAt H a D fs ∧ ErrR K D ∧ ClsV c cv ∧ PySem.W.kitOne K (.ref D) cv = some b ∧ Q (.bl b) H
theorem call_isV : CallR X (.builtin "isinstance") (rIsV X.K) := by
  intro pins s σ H xs us Q I r h
  obtain ⟨a, D, fs, c, cv, b, rfl, ea, R, hc, e, q⟩ := h
  obtain ⟨u1, u2, rfl, r1, r2⟩ := vals2 r
  obtain rfl : u1 = Value.ref a := r1
  have e2 := hc.eq r2
  subst e2
  obtain ⟨ox, od, J, _⟩ := ea.inst I
  exact PySem.W.kia_one (PySem.W.kitx_exc R.cl R.ga R.gt R.sb R.ca R.cg R.ct R.mo) I.kIn J e (fun z => nomatch z) fun tk => ⟨.bl b, H, I.tok tk, rfl, q⟩
end
/-! ### small data: what the law draws -/
inductive AnyV (H : Hp) : V → PyData → Prop where
  | non : AnyV H .non .none
  | bl (b : Bool) : AnyV H (.bl b) (.bool b)
  | int (i : Int) (h : i.natAbs < 10 ^ 40) : AnyV H (.int i) (.int i)
  | str (x : Str) (h : (reprText x).length ≤ 60) : AnyV H (.str x) (.str x)
  | tup {a : Addr} (ns : List Int) (hn : ns = [] ∨ ns = [1, 2]) (h : H a = some (.tup (ns.map V.int))) : AnyV H (.ref a) (.tuple (ns.map PyData.int))
  | lst {a : Addr} (h : H a = some (.lst [.int 3])) : AnyV H (.ref a) (.list [.int 3])
  | dct {a : Addr} (h : H a = some (.dK [])) : AnyV H (.ref a) (.dict [])
theorem AnyV.same {H H' : Hp} {v : V} {d : PyData} (h : AnyV H v d) (s : Same H H') : AnyV H' v d := by
  cases h with
  | non => exact .non
  | bl b => exact .bl b
  | int i h => exact .int i h
  | str x h => exact .str x h
  | tup ns hn h => exact .tup ns hn (s _ _ h)
  | lst h => exact .lst (s _ _ h)
  | dct h => exact .dct (s _ _ h)
theorem shown_small {H : Hp} {v : V} {d : PyData} (h : AnyV H v d) : d.shown.length ≤ 60 := by
  cases h with
  | non => show ("None" : Str).length ≤ 60; decide +kernel
  | bl b => cases b <;> (show (_ : Str).length ≤ 60) <;> decide +kernel
  | int i h =>
    simp only [PyData.shown]
    have := int_text_length_le10 (a := i) (k := 40) (by decide) h
    show (Str.ofString (toString i)).length ≤ 60
    rw [PySem.ofString_length]
    exact Nat.le_trans this (by decide)
  | str x h => exact h
  | tup ns hn h => rcases hn with rfl | rfl <;> decide +kernel
  | lst h => decide +kernel
  | dct h => decide +kernel
theorem log2_of {i : Int} (h : i.natAbs < 10 ^ 40) : i.natAbs.log2 < 1920 := by
  by_cases z : i.natAbs = 0
  · rw [z]; decide
  · refine (Nat.log2_lt z).mpr (Nat.lt_of_lt_of_le h ?_)
    exact Nat.le_trans (Nat.le_of_ble_eq_true (by decide +kernel) : 10 ^ 40 ≤ 2 ^ 140) (Nat.pow_le_pow_right (by decide) (by decide))

inductive AnyAll (H : Hp) : List V → List PyData → Prop where
  | nil : AnyAll H [] []
  | cons {v : V} {d : PyData} {vs : List V} {ds : List PyData} : AnyV H v d → AnyAll H vs ds → AnyAll H (v :: vs) (d :: ds)
theorem AnyAll.same {H H' : Hp} (s : Same H H') : ∀ {vs : List V} {ds : List PyData}, AnyAll H vs ds → AnyAll H' vs ds
  | _, _, .nil => .nil
  | _, _, .cons h t => .cons (h.same s) (t.same s)
theorem AnyAll.append {H : Hp} : ∀ {vs ws : List V} {ds es : List PyData}, AnyAll H vs ds → AnyAll H ws es → AnyAll H (vs ++ ws) (ds ++ es)
  | _, _, _, _, .nil, k => k
  | _, _, _, _, .cons h t, k => .cons h (t.append k)
theorem textFrom_most : ∀ (ts : List Str) (k : Nat) (acc : Str), (textFrom k acc ts).length ≤ acc.length + piled ts
  | [], k, acc => by show acc.length ≤ _; omega
  | t :: r, k, acc => by
    have h := textFrom_most r (k + 1) (acc ++ (if k > 0 then ", " else "" : String) ++ t)
    have e : (acc ++ (if k > 0 then ", " else "" : String) ++ t).length = acc.length + (if k > 0 then 2 else 0) + t.length := by
      rw [strLen_append, strLen_append]; split <;> rfl
    rw [piled_cons]
    show (textFrom (k + 1) _ r).length ≤ _
    rw [e] at h
    have : (if k > 0 then 2 else 0) ≤ 2 := by split <;> omega
    omega
theorem shownAll_piled {H : Hp} : ∀ {vs : List V} {ds : List PyData}, AnyAll H vs ds → piled (PyData.shownAll ds) ≤ 62 * ds.length
  | _, _, .nil => by simp only [PyData.shownAll]; exact Nat.zero_le _
  | _, _, .cons (ds := ds) h t => by
    have h1 := shown_small h
    have h2 := shownAll_piled t
    simp only [PyData.shownAll]
    rw [piled_cons, List.length_cons]
    omega
theorem shownAll_len : ∀ ds : List PyData, (PyData.shownAll ds).length = ds.length
  | [] => by simp only [PyData.shownAll, List.length_nil]
  | d :: ds => by simp only [PyData.shownAll, List.length_cons, shownAll_len ds]
theorem listText_most {ds : List PyData} {H : Hp} {vs : List V} (h : AnyAll H vs ds) (hl : ds.length ≤ 100) : (listText (PyData.shownAll ds)).length ≤ sizeLine := by
  have h1 := textFrom_most (PyData.shownAll ds) 0 "["
  have h2 := shownAll_piled h
  unfold listText
  rw [strLen_append, sizeLine_eq]
  have e1 : ("[" : Str).length = 1 := by decide +kernel
  have e2 : ("]" : Str).length = 1 := by decide +kernel
  rw [e1] at h1
  rw [e2]
  omega
section
variable {X : Cx} {pins : List (Addr × Obj)} {σ : L2.St} {H : Hp} {s : Shared}
theorem ints_reprAll {h₀ : Heap} {P : Program} {w : World} : ∀ (ns : List Int) (us : List Value), (∀ i ∈ ns, i.natAbs < 10 ^ 40) → Vals (ns.map V.int) us → ReprAllK P w [] h₀ 0 us (PyData.shownAll (ns.map PyData.int))
  | [], _, _, r => by
    cases r
    simp only [List.map_nil, PyData.shownAll]
    exact .nil
  | n :: ns, _, hn, r => by
    cases r with
    | cons r1 r2 =>
      obtain ⟨t, rfl⟩ := r1
      simp only [List.map_cons, PyData.shownAll]
      refine .cons ?_ (ints_reprAll ns _ (fun i hi => hn i (List.mem_cons_of_mem _ hi)) r2)
      simp only [PyData.shown]
      exact .of_is (ReprIs.int t (log2_of (hn n List.mem_cons_self))) _ _ _
/-- one of them, shown; the addresses that its text runs through are tracked, and hold no long list -/
theorem AnyV.reprK {v : V} {d : PyData} {u : Value} (I : Inv X pins σ H s) (h : AnyV H v d) (r : RelV v u) :
    ∃ bs, (∀ b ∈ bs, ∃ o, H b = some o ∧ ∀ xs : List V, 2 ≤ xs.length → o ≠ .lst xs) ∧ ReprK X.prog X.w bs s.heap 1 u d.shown := by
  have nob : ∀ b ∈ ([] : List Addr), ∃ o, H b = some o ∧ ∀ xs : List V, 2 ≤ xs.length → o ≠ .lst xs := fun _ z => nomatch z
  cases h with
  | non => obtain rfl := r; exact ⟨[], nob, .of_is ReprIs.none _ _ _⟩
  | bl b => obtain rfl := r; exact ⟨[], nob, .of_is (ReprIs.bool b) _ _ _⟩
  | int i h => obtain ⟨t, rfl⟩ := r; exact ⟨[], nob, .of_is (ReprIs.int t (log2_of h)) _ _ _⟩
  | str x h =>
    obtain ⟨t, rfl⟩ := r
    exact ⟨[], nob, .of_is (ReprIs.str x t (by rw [sizeLine_eq]; omega)) _ _ _⟩
  | @tup a ns hn h =>
    obtain rfl := r
    obtain ⟨_, its, rv, o, h1, h2, n, h3⟩ := (show ObjOk X.prog X.w H s.heap a (.tup (ns.map V.int)) from I.hok a _ h)
    refine ⟨[a], fun b hb => ?_, ?_⟩
    · rw [List.mem_singleton.mp hb]
      exact ⟨_, h, fun xs _ z => nomatch z⟩
    · simp only [PyData.shown]
      exact ReprK.tuple h1 h2 h3 (fun z => nomatch z) (ints_reprAll ns _ (by rcases hn with rfl | rfl <;> decide) rv)
  | @lst a h =>
    obtain rfl := r
    obtain ⟨_, its, n, rv, h1⟩ := (show ObjOk X.prog X.w H s.heap a (.lst [.int 3]) from I.hok a _ h)
    refine ⟨[a], fun b hb => ?_, ?_⟩
    · rw [List.mem_singleton.mp hb]
      exact ⟨_, h, fun xs hx z => by injection z with z; subst z; exact absurd hx (by decide)⟩
    · have ra := ints_reprAll (h₀ := s.heap) (P := X.prog) (w := X.w) [3] its (by decide) rv
      cases rv with
      | cons r1 r2 =>
        simp only [PyData.shown]
        exact ReprK.list h1 rfl rfl (fun z => nomatch z) (by simpa using ra.length_eq) (fun i y e => ra.item i y (by simpa using e))
  | @dct a h =>
    obtain rfl := r
    obtain ⟨_, hs, vs, kv, o, es, ep, h1, h2, h3, h4⟩ := (show ObjOk X.prog X.w H s.heap a (.dK []) from I.hok a _ h)
    refine ⟨[a], fun b hb => ?_, ?_⟩
    · rw [List.mem_singleton.mp hb]
      exact ⟨_, h, fun xs _ z => nomatch z⟩
    · simp only [PyData.shown]
      have e0 : es.toList = [] := by
        cases kv
        obtain ⟨_, hp, _⟩ := h4
        cases hes : es.toList with
        | nil => rfl
        | cons x l =>
          rw [hes] at hp
          cases hp
      exact ReprK.dict h1 h2.1 h3 hs (fun z => nomatch z) (by rw [e0]; simp only [PyData.shownKv]; exact .nil)
theorem AnyAll.reprK (I : Inv X pins σ H s) : ∀ {vs : List V} {ds : List PyData} {us : List Value}, AnyAll H vs ds → Vals vs us →
    ∃ bs, (∀ b ∈ bs, ∃ o, H b = some o ∧ ∀ xs : List V, 2 ≤ xs.length → o ≠ .lst xs) ∧ ReprAllK X.prog X.w bs s.heap 1 us (PyData.shownAll ds)
  | _, _, _, .nil, .nil => ⟨[], (fun _ z => nomatch z), by simp only [PyData.shownAll]; exact .nil⟩
  | _, _, _, .cons h t, .cons r rs => by
    obtain ⟨b1, n1, k1⟩ := h.reprK I r
    obtain ⟨b2, n2, k2⟩ := AnyAll.reprK I t rs
    refine ⟨b1 ++ b2, fun b hb => ?_, ?_⟩
    · rcases List.mem_append.mp hb with z | z
      · exact n1 b z
      · exact n2 b z
    · simp only [PyData.shownAll]
      exact .cons (k1.more fun b z => List.mem_append_left _ z) (k2.more_le (fun b z => List.mem_append_right _ z) (Nat.le_refl _))
/-- repr(xs), xs a list of two or more of them -/
theorem call_reprL (hg : X.A.guards = some []) (hu : X.A.units + 64 < cLine) : CallR X (.builtin "repr") (fun xs H Q => ∃ (p : Addr) (vs : List V) (ds : List PyData), xs = [.ref p] ∧ H p = some (.lst vs) ∧ AnyAll H vs ds ∧ 2 ≤ vs.length ∧ ds.length ≤ 100 ∧
    Q (.str (PyData.list ds).shown) H) := by
  intro pins s σ H xs us Q I r h
  obtain ⟨p, vs, ds, rfl, hp, ha, h2, h1, q⟩ := h
  obtain ⟨u, rfl, r1⟩ := vals1 r
  obtain rfl := r1
  obtain ⟨_, its, n, rv, ho⟩ := (show ObjOk X.prog X.w H s.heap p (.lst vs) from I.hok p _ hp)
  obtain ⟨bs, nb, hk⟩ := ha.reprK I rv
  have hz := listText_most ha h1
  have np : p ∉ bs := fun z => by
    obtain ⟨o, e, no⟩ := nb p z
    rw [hp] at e
    exact no vs h2 (Option.some.inj e).symm
  have hlen := rv.length
  cases its with
  | nil => rw [hlen] at h2; exact absurd h2 (by decide)
  | cons x l =>
    refine call_repr_slot (T := "list") (idr := "list.__repr__") (by omega) ⟨_, ho, rfl⟩ PySem.F.slot_list_repr.toG ?_
    refine call_list_reprK (A := X.A.in1) (g := []) (as := bs) (d := 1) (ts := PyData.shownAll ds) ho rfl rfl np (by simpa using hk.length_eq) (fun i y e => hk.item i y (by simpa using e)) hg (fun b _ => Clear.nil b) (by show X.A.units + 1 + 2 < _; omega) (fun _ _ e => e) (fun h' u tk kp => ?_) hz
    exact ⟨_, _, rfl, .str (PyData.list ds).shown, H, I.kept (t' := tk) kp, ⟨u, by simp only [PyData.shown]⟩, q⟩
end
end XV

set_option Elab.async false
set_option linter.all false
set_option maxRecDepth 100000
set_option maxHeartbeats 4000000
/-! an own error without fields, made to be raised -/
namespace XV
open PySem PySem.Spec PyProof.Rows L2
/-- C(), H0: the heap at the def's entry -/
def tMk0 (H0 : Hp) (C : Addr) (sp : Sp) : L2.St → Hp → XK → Prop := fun σ H Q => ∀ a, H a = none → H0 a = none ∧ sp [.ref a] (upd H a (exo a C none)) (fun v H2 => v = .non ∧ ∃ b, V.ref a = .ref b ∧ H2 b = some (exo b C none) ∧ H0 b = none ∧ Q (.ref C) none (delH H2 b)) (fun _ _ _ => False)
section
variable {X : Cx} {CX : CXT} {k : Nat} {C fI : Addr} {fd : FuncData} {ps : List Str} {sp : Sp} {x : Str} {p pos : Pos}
theorem pmk_oex0 (D : ErrC X.K C fI) (F : FnOk X.prog X.w X.K X.mg X.base CX k fI fd ps sp) (hr : Room (k + 1) X.A) (hb : KBn X.K fd ps 1 [] (fun us _ => us) (fun vs _ => vs)) (hx : Passes CX X (fun _ _ _ => False)) (hex : X.ex = [])
    (hg : Gl X x) (hm : X.mg x = some (.ref C)) (hdb : (x == ("__debug__" : Str)) = false := by decide) : PMk X (.Call (.Name x p) [] [] pos) (tMk0 X.H_0 C sp) := by
  intro pins s σ H Q I h
  refine wpAny_Call_Name_kw (ld_glob I hg hm (PySem.W.callWith_K0 I.kIn D.T.kC ?_) hdb)
  refine wpAny_mono (run_err (us := []) (vs := []) (ws := []) (zs := []) (n := 0) (Q := fun v H2 => ∃ b, v = .ref b ∧ H2 b = some (exo b C none) ∧ X.H_0 b = none ∧ Q (.ref C) none (delH H2 b)) D F hr hb hx I .nil .nil rfl rfl (Nat.zero_le _) (fun a na => (h a na).2)) (fun u s1 q => ?_) fun _ _ e => e
  obtain ⟨v, H2, I2, rv, a, rfl, ha, na, q⟩ := q
  cases (show u = Value.ref a from rv)
  obtain ⟨t1, ho⟩ := exo_at I2.hok ha
  obtain ⟨G, gs, ga, J⟩ := I2.untrack ha (fr0_none na) hex
  exact ⟨a, _, _, { s1 with heap := G }, delH H2 a, .ref C, none, rfl, J, gs, ga, ho, ⟨rfl, rfl⟩, rfl, rfl, delH_same, rfl, I2.bare, raises_own D.T.exC D.T.tyC, q⟩
end
end XV

set_option Elab.async false
set_option linter.all false
set_option maxRecDepth 100000
set_option maxHeartbeats 4000000
/-! a lambda handed to a def that calls it in a try with several clauses 'except C as e' -/
namespace XV
open PySem PySem.Spec PyProof.Rows L2 LamX
section
variable {X : Cx} {pins : List (Addr × Obj)} {σ : L2.St} {H : Hp} {s : Shared}
/-- x(), in the def that got the lambda; what that def wishes of an error may look at its own slots -/
theorem pe_actS {CXg : CXT} {Eg : XK} {Ng : List Str} {qg : Str} {sg : Scope} {g f c' : Addr} {cdg pm ctv : Value} {pa : Arguments} {bd : Expr} {sc : Scope} {k i : Nat} {a : Str} {pn : List (Addr × Obj)} {xe : Value → Shared → Prop} {W : WX} {tb : XK → TE} {p1 p2 : Pos}
    (I : Inv X pins σ H s) (L : LamS X.env.scope sc) (hf : s.heap.get? f = some (PySem.W.kla_obj "<lambda>" (X.env.qual ++ "<lambda>") pa bd sc (cloFrom X.env.cells sc.names []) pm c' ctv)) (hfn : H f = none) (hfr : f ∉ frs X.stack)
    (hbi : bindArgs (PySem.W.kla_fn "<lambda>" (X.env.qual ++ "<lambda>") pa bd sc (cloFrom X.env.cells sc.names []) pm (.ref c') ctv) ⟨[], []⟩ = pure [])
    (tk : Takes ((cxOf CXg X.prog X.w X.K X.mg X.base Ng qg sg g cdg X.A X.stack s H Eg).tr pn xe) W) (hr : Room (k + 1) (X.A.deeper (envOfC qg sg s.heap.objs.size g cdg)))
    (hbo : ∀ (A : Around) (outer : List Env) (s : Shared) (H : Hp) (E : XK), Room k (A.deeper (lamEnv X sc s.heap.objs.size f c')) → PE (lamCx X A outer s H E sc f c') bd (tb E))
    (hN : Ng[i]? = some a) (hv : Vis sg a) (hd : (a == ("__debug__" : Str)) = false := by decide) (hcd : (a == ("__classdict__" : Str)) = false := by decide) :
    PE ((cxOf CXg X.prog X.w X.K X.mg X.base Ng qg sg g cdg X.A X.stack s H Eg).tr pn xe) (.Call (.Name a p1) [] [] p2)
      (fun σZ HZ Q => σZ[i]? = some (some (.ref f)) ∧ HZ c' = some (CodeO c' (X.env.qual ++ "<lambda>")) ∧ tb (WE W σZ) σ HZ Q) := by
  refine ⟨fun pinsZ sZ σZ HZ Q IZ ⟨hs, hc, ht⟩ => wpAny_Call_Name_kw (thn ((pe_var (pos := p1) (i := i) hN hv hd hcd).run pinsZ sZ σZ HZ (fun v H1 => v = .ref f ∧ H1 = HZ) IZ ⟨.ref f, hs, rfl, rfl⟩) fun u s1 ⟨v, H1, I1, r1, ev, eH⟩ => ?_)⟩
  subst ev; rw [eH] at I1; obtain rfl : u = Value.ref f := r1
  have fo : s1.heap.get? f = some (PySem.W.kla_obj "<lambda>" (X.env.qual ++ "<lambda>") pa bd sc (cloFrom X.env.cells sc.names []) pm c' ctv) := I1.base.keep f _ hf hfn hfr (fun z => nomatch (show f ∈ ([] : List Addr) from z))
  have un : Un (frs X.stack) [] H HZ s.heap s1.heap := I1.base
  obtain ⟨⟨oc, vs, t, hoc, hdc, hvc⟩, _, _⟩ := I1.hok c' _ hc
  refine PySem.W.callWith_F0 ⟨_, _, _, _, fo⟩ (wpAny_call (codeAny_mono (PySem.W.kla_callFunE (R := CR (L2.CX X.prog X.w) (envOfC qg sg s.heap.objs.size g cdg :: X.stack) X.prog X.w HZ s1 Q (WE W σZ)) hr.depth fo rfl L.co L.gen rfl ⟨c', oc, vs, t, rfl, hoc, hdc, hvc⟩ ?_) fun r s' hq => ?_))
  · refine (show ∀ m : Sem (List (Str × Value)), m = pure [] → ∀ {M : Model} {B : Around} {P : List (Str × Value) → Shared → Prop} {E : Value → Shared → Prop} {z : Shared}, P [] z → wpAny M B m P E z from fun m e _ _ _ _ _ h => by rw [e]; exact wpAny_pure h) _ hbi ?_
    refine (wpAny_newFunctionEnv (fun y hy => (L.own y hy).2) (fun y hy => absurd hy (by simp)) (fun h₁ hns hsb => ⟨I1.nolimit.fresh _ hsb, PySem.W.kla_codeExpr ?_⟩) L.kind)
    have kp : ∀ b o, s1.heap.get? b = some o → h₁.get? b = some o := fun b o e => hsb.extBut b o (Nat.ne_of_lt (Heap.lt_size e)) (Heap.get?_push_of_some _ e)
    have J : Inv (lamCx X (X.A.deeper (envOfC qg sg s.heap.objs.size g cdg)) (envOfC qg sg s.heap.objs.size g cdg :: X.stack) s1 HZ (WE W σZ) sc f c') [] σ HZ { s1 with heap := h₁, toks := s1.toks + ([] : List (Str × Value)).length } := lam_start2 I L I1.env0 hr.hd un hns kp
    refine wpAny_mono ((hbo _ _ s1 HZ _ (hr.deeper _)).run [] _ _ HZ Q J ht) (fun v s' ⟨w', H', J', rv, q⟩ => ?_) fun e s' hq => hq
    exact ⟨w', H', J'.os, J'.bare, J'.base, J'.hok, rv, q⟩
  · cases r with
    | error e => exact passAt tk σZ pinsZ HZ s1 e s' I1 hq
    | ok fl => cases fl with
      | ret u => exact I1.after hq
      | next => exact hq.elim
      | brk => exact hq.elim
      | cont => exact hq.elim
end
/-- as GivesTo: the wish of an error may look at the def's own slots -/
def GivesS (X : Cx) (Ng : List Str) (x : Str) (sg : Scope) (g : Addr) (cdg : Value) (bg : List Stmt) (a : Str) (q : Str) (TT : (XK → Hp → VK → Prop) → Hp → VK → Prop) : Prop :=
  ∀ (f c' : Addr) (s : Shared) (H : Hp) (Q : VK) (tl : XK → Hp → VK → Prop),
    (∀ (W : WX) (pn : List (Addr × Obj)) (xe : Value → Shared → Prop) (p1 p2 : Pos), Takes ((cxOf C8.CX0 X.prog X.w X.K X.mg X.base Ng x sg g cdg X.A X.stack s H C8.E0).tr pn xe) W →
      PE ((cxOf C8.CX0 X.prog X.w X.K X.mg X.base Ng x sg g cdg X.A X.stack s H C8.E0).tr pn xe) (.Call (.Name a p1) [] [] p2) (fun σZ HZ Q => σZ[0]? = some (some (.ref f)) ∧ HZ c' = some (CodeO c' q) ∧ tl (WE W σZ) HZ Q)) →
    H c' = some (CodeO c' q) → TT tl H Q →
    ∃ t, PSs (cxOf C8.CX0 X.prog X.w X.K X.mg X.base Ng x sg g cdg X.A X.stack s H C8.E0).nox bg t ∧ t { nx := fun _ H' => Q .non H', rt := Q } (L2.start Ng [.ref f]) H
section
variable {X : Cx}
/-- x(lambda: body) -/
theorem pe_lamcallS {T : List (Addr × Str)} {TT : (XK → Hp → VK → Prop) → Hp → VK → Prop} {x a : Str} {g c P : Addr} {k : Nat} {st : Stmt} {fd : FuncData} {Ng : List Str}
    {pa : Arguments} {bd : Expr} {sc : Scope} {t : XK → TE} {p lpos pos : Pos} (F : L2.Fun X.K x x st g fd) (hg : Gl X x) (hm : X.mg x = some (.ref g)) (hb : L2.Binds X.K fd [a] []) (Sg : FnScope Ng [a] (defScope st)) (hNg : Ng[0]? = some a) (hva : Vis (defScope st) a)
    (hG : ∀ cdv, GivesS X Ng x (defScope st) g cdv (defBody st) a (X.env.qual ++ "<lambda>") TT)
    (TB : TabB X.base X.mg c P) (hcode : X.env.code = .ref c) (hmT : (P, X.env.qual ++ "<lambda>") ∈ T) (hu : ∀ p ∈ T, p.1 = P → p.2 = X.env.qual ++ "<lambda>") (hr : Room (k + 2) X.A) (L : LamS X.env.scope sc) (hdef : defaultsOf pa X.env = ([], []))
    (hbi : ∀ (q : Str) (cl : List (Str × Addr)) (pm cv ctv : Value), bindArgs (PySem.W.kla_fn "<lambda>" q pa bd sc cl pm cv ctv) ⟨[], []⟩ = pure [])
    (hbo : ∀ (A : Around) (outer : List Env) (s : Shared) (H : Hp) (E : XK) (f c' : Addr), Room k (A.deeper (lamEnv X sc s.heap.objs.size f c')) → PE (lamCx X A outer s H E sc f c') bd (t E))
    (hdb : (x == ("__debug__" : Str)) = false := by decide) (hd : (a == ("__debug__" : Str)) = false := by decide) (hcd : (a == ("__classdict__" : Str)) = false := by decide) :
    PE X (.Call (.Name x p) [.Lambda pa bd sc lpos] [] pos) (tLam T TT t) := by
  obtain ⟨oc, od, kV, doc, pm, an, cdv, ct, osl, rfl, lk, hcg⟩ := F.ex
  refine ⟨fun pins s σ H Q I ⟨hT, h⟩ => wpAny_Call_Name_kw (ld_glob I hg hm (PySem.W.callWith_K (h₀ := X.base) I.ok.mod.kin F.kp ?_ (by rfl) (by rfl)) hdb)⟩
  show wpAny _ _ (spliced ((false, eval (.Lambda pa bd sc lpos) X.env) :: backTo pos (starEach [] X.env))) _ _ s
  refine Calls.spliced_cons (lam_make2 I TB hcode hmT hu hT hdef (L.has I.ok) fun f c' pm' ctv H1 s' I1 eN T1 hf hfn hfr hco => Calls.spliced_nil ⟨I1.kIn, ?_⟩)
  have rc : codeAny (model X.prog X.w) X.A (.call (.ref g) ⟨[.ref f], []⟩) (CR C8.CX0 X.stack X.prog X.w H1 s' Q C8.E0) s' :=
    run_ofS (N := Ng) (ps := [a]) (us := [.ref f]) (vs := [.ref f]) lk hcg Sg hr I1.env0 (hb s' [.ref f] I1.kIn rfl) (.cons rfl .nil) rfl fun hr' => by
      obtain ⟨t', ht', hq'⟩ := hG cdv f c' s' H1 Q (fun E H' Q' => t E σ H' Q') (fun W pn xe p1 p2 tk => pe_actS (i := 0) I1 L hf hfn hfr (hbi _ _ _ _ _) tk hr' (fun A outer s H E hr2 => hbo A outer s H E f c' hr2) hNg hva hd hcd) hco (h H1 eN T1)
      exact ⟨t', ht'.nox, hq'⟩
  refine wpAny_call (codeAny_mono rc fun r s2 hq => ?_)
  cases r with
  | error e => exact hq.elim
  | ok fl => cases fl with
    | ret u => exact I1.after hq
    | next => exact hq.elim
    | brk => exact hq.elim
    | cont => exact hq.elim
end
/-! ### several clauses, each 'as n' -/
/-- what the clauses wish, one after the other: slot i is n's -/
def wManyAs (K : PySem.W.Frag) (i : Nat) (Wout : WX) (D : Ends) : List (Value × (Addr → Value → Option Addr → TS)) → WX
  | [] => Wout
  | (c, ts) :: r => wAs K c i ts (wManyAs K i Wout D r) D
inductive HdsAs (X : Cx) (n : Str) : List ExceptHandler → List (Value × (Addr → Value → Option Addr → TS)) → Prop
  | nil : HdsAs X n [] []
  | cons {x : Str} {c : Value} {ts : Addr → Value → Option Addr → TS} {b₀ : Stmt} {su : List Stmt} {np p' : Pos} {hds : List ExceptHandler} {l : List (Value × (Addr → Value → Option Addr → TS))} (hc : Names X x c)
      (hsu : ∀ (a : Addr) (oe : Obj) (cls : Value) (d : Option Addr) (pn : List (Addr × Obj)), Zc cls d oe → (∃ vs, oe.data = .fields vs) → PSs (X.suite a ((a, oe) :: pn)) (b₀ :: su) (ts a cls d)) (r : HdsAs X n hds l) :
      HdsAs X n (.ExceptHandler (some (.Name x np)) (some n) (b₀ :: su) p' :: hds) ((c, ts) :: l)
section
variable {X : Cx} {body : List Stmt} {h₀ : ExceptHandler} {hds : List ExceptHandler} {l : List (Value × (Addr → Value → Option Addr → TS))} {pos : Pos} {tb : WX → TS} {Wout : WX} {n : Str} {i : Nat}
theorem ps_try_manyAs (hs : X.stack = X.env :: X.outer) (hf : X.env.frame = some X.env.locals) (hN : X.N.Nodup) (hi : X.N[i]? = some n) (hln : X.env.kindOf n = some .local) (tk : Takes X Wout)
    (hb : ∀ (W : WX) (pn : List (Addr × Obj)) (xe : Value → Shared → Prop), Takes (X.tr pn xe) W → PassesOwn (model X.prog X.w) X.A X.env xe → PSs (X.tr pn xe) body (tb W))
    (hh : HdsAs X n (h₀ :: hds) l) : PS X (.Try body (h₀ :: hds) [] [] pos) (fun D σ H => tb (wManyAs X.K i Wout D l) D σ H) := by
  refine ⟨fun pins s σ H D I h => wpAny_Try_except ?_⟩
  have ok := I.ok
  have hfr : X.A.frames = some (X.env :: X.outer) := ok.frames.trans (by rw [hs])
  refine wpAny_mono ((hb (wManyAs X.K i Wout D l) (X.pn ++ pins) (fun e z₁ => wpAny (model X.prog X.w) X.A (noteFrame e X.env) (fun _ z₂ => wpAny (model X.prog X.w) X.A (setFlight e none) (fun _ z₃ =>
    wpAny (model X.prog X.w) X.A (handleBy e X.env (h₀ :: hds)) (SP X pins D) X.xe z₃) X.xe z₂) X.xe z₁) (fun u s' xx => ?_) PassesOwn.looking).run [] s σ H D (I.toTry _) h) (fun f z1 hsp => ?_) (fun _ _ he => he)
  · obtain ⟨a, B, sI, pins', σ', H', cls, d, rfl, J', nb, up, sky, na, os, ag, w⟩ := xx
    have J : Inv X pins σ' H' sI := J'.ofTry ok
    refine Sky.land Zc.steady hfr hf (show Sky B (X.env :: X.outer) a (Zc cls d) X.env.locals s'.heap by rw [← hs]; exact sky) fun h3 fl3 up3 => ?_
    have J3 : Inv X pins σ' H' { s' with heap := h3 } := J.landed nb fl3.1 (up.trans up3) os ag
    obtain ⟨oe3, vs3, he3, hz3, hd3⟩ := fl3.there
    have nfr : a ∉ frs (X.env :: X.outer) := fun hm => by
      obtain ⟨_, o', e', hnf⟩ := fl3.2.2.1.mem hm
      rw [he3] at e'; cases e'
      exact hnf _ hd3
    have nL : a ≠ X.env.locals := fun z => nfr (List.mem_filterMap.mpr ⟨X.env, List.mem_cons_self, by rw [hf, z]⟩)
    have nF : a ∉ X.fs := fun hm => by
      obtain ⟨e, he, q⟩ := List.mem_filterMap.mp hm
      exact nfr (List.mem_filterMap.mpr ⟨e, List.mem_cons_of_mem _ he, q⟩)
    have S3 := J3.suite he3 hd3 na nL nF
    have go : ∀ {hs' : List ExceptHandler} {l' : List (Value × (Addr → Value → Option Addr → TS))}, HdsAs X n hs' l' → wManyAs X.K i Wout D l' cls d σ' H' →
        wpAny (model X.prog X.w) X.A (handleBy (.ref a) X.env hs') (SP X pins D) X.xe { s' with heap := h3 } := by
      intro hs' l' hk
      induction hk with
      | nil =>
        intro w
        obtain ⟨k1, k2, k3, oe, vs, T, oT, ts', he, hz, hd, h1, hr⟩ := id fl3
        refine wpAny_handleBy_nil ?_
        unfold PySem.passOn
        refine wpAny_bind (wpAny_field he hd h1 ?_)
        have nt : ¬ ((Value.ref T == Value.none) = true) := by simp
        rw [if_neg nt]
        have fin : wpAny (model X.prog X.w) X.A (setFlight (.ref a) X.env.frame) (fun _ z4 => wpAny (model X.prog X.w) X.A (throw (.ref a) : Sem Flow) (SP X pins D) X.xe z4) X.xe { s' with heap := h3 } := by
          rw [hf]
          exact HandSPX.setFlight_upZ fl3 fun h4 hh4 up4 => wpAny_throw (tk _ _ ⟨a, B, sI, pins, σ', H', cls, d, rfl, J, nb, (up.trans up3).trans up4, .inr (.inr (by rw [hs]; exact hh4)), na, os, ag, w⟩)
        first | exact wpAny_bind (wpAny_pure (wpAny_bind fin)) | exact wpAny_bind fin
      | @cons x c ts b₀ su np p' hds2 l2 hc hsu r ih =>
        intro ⟨b, hb1, hyes, hno⟩
        refine wpAny_handleBy_cons (codeAny_handlers_test ?_) (by intro q; cases q)
        have LT : PySem.W.Looks (model X.prog X.w) h3 (typeOf (.ref a)) cls := fun A Q E z k q => wpAny_typeOf_ref (k _ _ he3) (by rw [hz3.1]; exact q)
        have LM := PySem.W.exm_one (M := model X.prog X.w) (J3.kIn) LT hb1
        have test : ∀ {Q : Value → Shared → Prop} {E : Value → Shared → Prop}, Q c { s' with heap := h3 } → wpAny (model X.prog X.w) (X.A.mark (some (.ref a))) (eval (.Name x np) X.env) Q E { s' with heap := h3 } := fun {Q E} q =>
          match hc with
          | ⟨hg, hdbg, .inl hm⟩ => ld_glob (X := X.suite a ((a, oe3) :: (X.pn ++ pins))) S3 hg hm q hdbg
          | ⟨hg, hdbg, .inr ⟨hm, hv, hnn⟩⟩ => ld_blt (X := X.suite a ((a, oe3) :: (X.pn ++ pins))) S3 hg hm hv q hnn hdbg
        refine test (LM.here ?_)
        cases b with
        | true =>
          refine codeAny_handlers_suite_as (HandSPX.lands_againZ fl3 fun h4 fl4 up4 => ?_)
          have J4 : Inv X pins σ' H' { s' with heap := h4 } := J.landed nb fl4.1 ((up.trans up3).trans up4) os ag
          obtain ⟨oe4, vs4, he4, hz4, hd4⟩ := fl4.there
          have S4 := J4.suite he4 hd4 na nL nF
          refine store_ok (X := X.suite a ((a, oe4) :: (X.pn ++ pins))) (v := .ref a) S4 hN hi (.inl hln) rfl (fun s5 S5 => ?_) (.inr hln)
          refine wpAny_mono ((hsu a oe4 cls d (X.pn ++ pins) hz4 ⟨_, hd4⟩).run [] s5 _ H' _ S5 (hyes rfl a na)) (fun f s6 hsp => ?_) (fun _ _ z => False.elim z)
          have gone : ∀ {σ6 : L2.St} {H6 : Hp} {Q : Shared → Prop}, Inv (X.suite a ((a, oe4) :: (X.pn ++ pins))) [] σ6 H6 s6 → (∀ s7, Inv X pins (σ6.set i none) H6 s7 → Q s7) →
              wpAny (model X.prog X.w) X.A (do bindName X.env n .none; unbindBehindTheSuite X.env n p') (fun _ s7 => Q s7) X.xe s6 := fun {σ6 H6 Q} S6 hq => gone_ok (S6.unsuite ok) hN hi hln hq
          cases f with
          | next => obtain ⟨σ6, H6, S6, q6⟩ := hsp; exact gone S6 fun _ J7 => ⟨_, _, J7, q6⟩
          | brk => obtain ⟨σ6, H6, S6, q6⟩ := hsp; exact gone S6 fun _ J7 => ⟨_, _, J7, q6⟩
          | cont => obtain ⟨σ6, H6, S6, q6⟩ := hsp; exact gone S6 fun _ J7 => ⟨_, _, J7, q6⟩
          | ret u => obtain ⟨v6, σ6, H6, S6, r6, q6⟩ := hsp; exact gone S6 fun _ J7 => ⟨_, _, _, J7, r6, q6⟩
        | false => exact ih (hno rfl)
    exact go hh w
  · cases f with
    | next => obtain ⟨σ', H', J', q⟩ := hsp; exact wpAny_execs_nil ⟨σ', H', J'.ofTry ok, q⟩
    | brk => obtain ⟨σ', H', J', q⟩ := hsp; exact ⟨σ', H', J'.ofTry ok, q⟩
    | cont => obtain ⟨σ', H', J', q⟩ := hsp; exact ⟨σ', H', J'.ofTry ok, q⟩
    | ret u => obtain ⟨v, σ', H', J', r, q⟩ := hsp; exact ⟨v, σ', H', J'.ofTry ok, r, q⟩
end
/-! ### isinstance of the caught error -/
/-- isinstance(e, c), e the exception that the suite holds, with or without a dict of its own -/
def rIsZ (K : PySem.W.Frag) (a : Addr) (cls : Value) (d : Option Addr) : List V → Hp → VK → Prop := fun xs H Q => ∃ (D : Addr) (c : V) (cv : Value) (b : Bool), xs = [.ref a, c] ∧ cls = .ref D ∧ ErrR K D ∧ (d = none ∨ ∃ dd fs, d = some dd ∧ H dd = some (.xd fs)) ∧ ClsV c cv ∧ PySem.W.kitOne K (.ref D) cv = some b ∧ Q (.bl b) H
theorem call_isZ {X : Cx} {a : Addr} {oe : Obj} {cls : Value} {d : Option Addr} {pn : List (Addr × Obj)} (hz : Zc cls d oe) (hf : ∃ vs, oe.data = .fields vs) : CallR (X.suite a ((a, oe) :: pn)) (.builtin "isinstance") (rIsZ X.K a cls d) := by
  intro pins s σ H xs us Q I r h
  obtain ⟨D, c, cv, b, rfl, rfl, R, hdd, hc, e, q⟩ := h
  obtain ⟨u1, u2, rfl, r1, r2⟩ := vals2 r
  obtain rfl : u1 = Value.ref a := r1
  have e2 := hc.eq r2
  subst e2
  obtain ⟨hget, _⟩ := I.pin (a, oe) (List.mem_append.mpr (.inl List.mem_cons_self))
  obtain ⟨vs, hv⟩ := hf
  have J : ∃ od, PySem.W.InstAt s.heap a oe D od := by
    rcases hdd with rfl | ⟨dd, fs, rfl, hd⟩
    · exact ⟨none, hget, hz.1, by unfold PySem.W.notCls; rw [hv] <;> rfl, by rw [hz.2]; trivial⟩
    · obtain ⟨mA, hns, _⟩ := (show ObjOk X.prog X.w H s.heap dd (.xd fs) from I.hok dd _ hd)
      obtain ⟨od, ho, _⟩ := lookIn_ns hns
      exact ⟨some od, hget, hz.1, by unfold PySem.W.notCls; rw [hv] <;> rfl, by rw [hz.2]; exact ho⟩
  obtain ⟨od, J⟩ := J
  exact PySem.W.kia_one (PySem.W.kitx_exc R.cl R.ga R.gt R.sb R.ca R.cg R.ct R.mo) I.kIn J e (fun z => nomatch z) fun tk => ⟨.bl b, H, I.kept (t' := tk) fun _ _ z => z, rfl, q⟩
end XV

set_option Elab.async false
set_option linter.all false
set_option maxRecDepth 100000
set_option maxHeartbeats 4000000
/-! the end of a law whose defs make lambdas; such a def -/
namespace XV
open PySem PySem.Spec PyProof.Rows L2 LamX
/-- what the head leaves of the defs' tables -/
def TabFact (q : Program) (K : PySem.W.Frag) (h : Heap) : Prop := ∀ (c P : Addr) (y : Str), ((recsOf q).find? fun r => r.name == y).isSome = true → PySem.W.tabIn K y = some (c, P) →
  PySem.W.CodeHd h c P ∧ h.get? P = some { cls := .none, data := .fields #[] }
theorem walk_ofTab {l : PySem.W.OpenLaw} {n k : Nat} {q : Program} {loose : List Str} {XP : (Str → Option Value) → Heap → Prop} {YP : World → Heap → Prop} {d : DefRec} {K : Params → PySem.W.Frag} {CX : World → CXT} {x : Str}
    (hn : l.most = some n) (hz : n ≤ sizeLine) (hdf : d.params.defaults = []) (hr : Room k callerA) (hY : ∀ (w : World) (h : Heap), YP w h → (K w.params).In h)
    (F : ∀ (w : World) (mg : Str → Option Value) (fa : Addr) (h : Heap), TabFact q (K w.params) h → YP w h → (K w.params).In h → h.Ns mainGlobals mg → mg d.name = some (.ref fa) → LawAtS l w (K w.params) (CX w) k n x mg fa h)
    (hCX : ∀ (w : World) (H : Hp) (s : Shared) (e : Value) (s' : Shared), CX w [] H s (fun _ _ _ => False) e s' → False) :
    PySem.W.WalkO q loose XP YP l.row.toRowW d [] (fun f vs => PySem.call f vs) :=
  Att.attach_callB hn hdf fun w z₀ z₁ mg mb fa o pm cd doc a vs ns G Y ho hd hcd hmg hobj hints hlen hbits hg => by
    have KX := hY w _ Y
    have TF : TabFact q (K w.params) z₁.heap := fun c P y hy ht => by
      obtain ⟨e, he⟩ := Option.isSome_iff_exists.mp hy
      exact PySem.W.tab_of G.T KX he ht
    obtain ⟨fd, cs, sp, hT, nT, C, hb, hsp, hF⟩ := F w mg fa _ TF Y KX G.T.g hmg
    exact law_callTs KX G.T.g G.T.b G.T.builtins G.T.nolimit hg hT nT C G.T.bmain hobj hints (Nat.le_trans hlen hz) hr hF hb (fun H hH hS => hsp H a ns hlen hbits hH hS) fun H e s' => hCX w H z₁ e s'
theorem tab_mk {K : PySem.W.Frag} {x : Str} {f c P : Addr} {oc oc2 : Value} {od od2 : Option Addr} {fd : FuncData} {sl sl2 : Array (Option Value)} {vs : Array Value} (a : PySem.W.nsIn K mainGlobals x = some (some (.ref f))) (l : K.lookup f = some ⟨oc, od, .func fd, sl⟩)
    (hc : fd.code = .ref c) (e : K.lookup c = some ⟨oc2, od2, .fields vs, sl2⟩) (v : vs[11]? = some (.ref P)) : PySem.W.tabIn K x = some (c, P) := by
  unfold PySem.W.tabIn
  rw [a]
  simp only [l, hc, e, v]
/-- as Fun, its code object told -/
structure FunC (K : PySem.W.Frag) (x qual : Str) (st : Stmt) (f : Addr) (fd : FuncData) (c : Addr) : Prop where
  ex : ∃ (oc : Value) (od : Option Addr) (kV doc pm : Value) (an : Option Addr) (ct : Value) (osl : Array (Option Value)),
    fd = PySem.W.fnOf x qual (defArgs st) (defBody st) (defScope st) .none kV doc pm an (.ref c) ct ∧ K.lookup f = some ⟨oc, od, .func fd, osl⟩ ∧ PySem.W.codeIn K (.ref c) qual = true
  kp : PySem.W.keepIn K (.ref f) = true
theorem FunC.ok {P : Program} {w : World} {K : PySem.W.Frag} {mg : Str → Option Value} {base : Heap} {x qual : Str} {st : Stmt} {f c : Addr} {fd : FuncData} {N ps : List Str} {k : Nat} {sp : Sp} (F : FunC K x qual st f fd c) (S : FnScope N ps (defScope st)) (len : ∀ vs H Q E, sp vs H Q E → vs.length = ps.length)
    (hbo : ∀ (A : Around) (outer : List Env) (s : Shared) (H : Hp) (vs : List V) (Q : VK) (E : XK), Room k (A.deeper (envOfC qual (defScope st) s.heap.objs.size f (.ref c))) → sp vs H Q E →
      ∃ t, PSs (cxOf CX0 P w K mg base N qual (defScope st) f (.ref c) A outer s H E).nox (defBody st) t ∧ t { nx := fun _ H' => Q .non H', rt := Q } (start N vs) H) : FnOk P w K mg base CX0 (k + 1) f fd ps sp := by
  obtain ⟨oc, od, kV, doc, pm, an, ct, osl, rfl, lk, hcd⟩ := F.ex
  refine fn_of lk hcd S len fun A outer s H vs Q E hr hsp => ?_
  obtain ⟨t, h, q⟩ := hbo A outer s H vs Q E hr hsp
  exact ⟨t, h.nox, q⟩
theorem func_mk {K : PySem.W.Frag} {x qual : Str} {st : Stmt} {f c : Addr} {oc : Value} {od an : Option Addr} {osl : Array (Option Value)} {kV doc pm ct : Value} (l : K.lookup f = some ⟨oc, od, .func (PySem.W.fnOf x qual (defArgs st) (defBody st) (defScope st) .none kV doc pm an (.ref c) ct), osl⟩)
    (h : PySem.W.codeIn K (.ref c) qual = true) (k : PySem.W.keepIn K (.ref f) = true) : FunC K x qual st f (PySem.W.fnOf x qual (defArgs st) (defBody st) (defScope st) .none kV doc pm an (.ref c) ct) c := ⟨⟨oc, od, kV, doc, pm, an, ct, osl, rfl, l, h⟩, k⟩
theorem FunC.fn {K : PySem.W.Frag} {x qual : Str} {st : Stmt} {f c : Addr} {fd : FuncData} (F : FunC K x qual st f fd c) : L2.Fun K x qual st f fd := let ⟨oc, od, kV, doc, pm, an, ct, osl, h⟩ := F.ex; ⟨⟨oc, od, kV, doc, pm, an, _, ct, osl, h⟩, F.kp⟩
end XV

set_option linter.all false
set_option maxRecDepth 100000
/-! canonical words: numbers of sums of widths; no word begins another one -/
namespace KR
/-- the last k bits of a number, as signs -/
def bitsL : Nat → Nat → List Nat
  | 0, _ => []
  | k + 1, n => bitsL k (n / 2) ++ [48 + n % 2]
theorem bits_len : ∀ (k n : Nat), (bitsL k n).length = k
  | 0, _ => rfl
  | k + 1, n => by simp [bitsL, bits_len k]
theorem bits_01 : ∀ (k n : Nat), ∀ c ∈ bitsL k n, c = 48 ∨ c = 49
  | 0, _, c, h => by cases h
  | k + 1, n, c, h => by
    simp only [bitsL, List.mem_append, List.mem_singleton] at h
    rcases h with h | h
    · exact bits_01 k _ c h
    · have := Nat.mod_two_eq_zero_or_one n
      omega
theorem bits_add : ∀ (b a n : Nat), bitsL (a + b) n = bitsL a (n / 2 ^ b) ++ bitsL b n
  | 0, a, n => by simp [bitsL]
  | b + 1, a, n => by
    show bitsL (a + b) (n / 2) ++ [48 + n % 2] = _
    rw [bits_add b a (n / 2), Nat.div_div_eq_div_mul, Nat.pow_succ, Nat.mul_comm 2 (2 ^ b), List.append_assoc]
    rfl
theorem bits_inj : ∀ (k n m : Nat), bitsL k n = bitsL k m → n % 2 ^ k = m % 2 ^ k
  | 0, n, m, _ => by simp [Nat.mod_one]
  | k + 1, n, m, h => by
    have h1 := List.append_inj h (by rw [bits_len, bits_len])
    have e1 := bits_inj k _ _ h1.1
    have e2 : 48 + n % 2 = 48 + m % 2 := by simpa using h1.2
    have e3 : n % 2 = m % 2 := by omega
    rw [Nat.pow_succ, Nat.mul_comm, Nat.mod_mul, Nat.mod_mul, e1, e3]
theorem bits_zero : ∀ k, bitsL k 0 = List.replicate k 48
  | 0 => rfl
  | k + 1 => by
    show bitsL k (0 / 2) ++ [48] = _
    rw [show (0 : Nat) / 2 = 0 from rfl, bits_zero k, ← List.replicate_succ']
/-! ### pairs (length, sign) and their order -/
abbrev Pr := Nat × Nat
def ltB (q p : Pr) : Bool := decide (q.1 < p.1 ∨ (q.1 = p.1 ∧ q.2 < p.2))
theorem ltB_iff {q p : Pr} : ltB q p = true ↔ (q.1 < p.1 ∨ (q.1 = p.1 ∧ q.2 < p.2)) := by unfold ltB; simp
theorem ltB_irr (p : Pr) : ltB p p = false := by
  cases h : ltB p p with
  | false => rfl
  | true => have := ltB_iff.mp h; omega
theorem ltB_trans {a b c : Pr} (h : ltB a b = true) (k : ltB b c = true) : ltB a c = true := by
  rw [ltB_iff] at *; omega
theorem ltB_tri {a b : Pr} (h : a ≠ b) : ltB a b = true ∨ ltB b a = true := by
  rw [ltB_iff, ltB_iff]
  by_cases c : a.1 = b.1
  · have : a.2 ≠ b.2 := fun e => h (Prod.ext c e)
    omega
  · omega
def sumF (P : List Pr) (c : Pr → Bool) (f : Pr → Nat) : Nat := ((P.filter c).map f).sum
theorem sumF_le {P : List Pr} {c d : Pr → Bool} {f : Pr → Nat} (h : ∀ r, c r = true → d r = true) : sumF P c f ≤ sumF P d f := by
  induction P with
  | nil => exact Nat.le_refl _
  | cons r P ih =>
    unfold sumF at *
    simp only [List.filter_cons]
    cases hc : c r with
    | true => rw [h r hc]; simp only [if_true, List.map_cons, List.sum_cons]; omega
    | false =>
      cases hd : d r with
      | true => simp only [Bool.false_eq_true, if_false, if_true, List.map_cons, List.sum_cons]; omega
      | false => simpa using ih
theorem sumF_add {P : List Pr} {c d : Pr → Bool} {f : Pr → Nat} {q : Pr} (hq : q ∈ P) (h : ∀ r, c r = true → d r = true) (hd : d q = true) (hc : c q = false) : sumF P c f + f q ≤ sumF P d f := by
  induction P with
  | nil => cases hq
  | cons r P ih =>
    by_cases e : q = r
    · subst e
      have := sumF_le (P := P) (f := f) h
      unfold sumF at *
      simp only [List.filter_cons, hc, hd, Bool.false_eq_true, if_false, if_true, List.map_cons, List.sum_cons]
      omega
    · have ih := ih ((List.mem_cons.mp hq).resolve_left e)
      unfold sumF at *
      simp only [List.filter_cons]
      cases hc' : c r with
      | true => rw [h r hc']; simp only [if_true, List.map_cons, List.sum_cons]; omega
      | false =>
        cases hd' : d r with
        | true => simp only [Bool.false_eq_true, if_false, if_true, List.map_cons, List.sum_cons]; omega
        | false => simpa using ih
/-- the number of a pair's word -/
def num (P : List Pr) (p : Pr) : Nat := sumF P (fun q => ltB q p) fun q => 2 ^ (p.1 - q.1)
theorem sumF_scale (P : List Pr) (c : Pr → Bool) (f g : Pr → Nat) (m : Nat) (h : ∀ r ∈ P, c r = true → f r * m = g r) : sumF P c f * m = sumF P c g := by
  induction P with
  | nil => unfold sumF; simp
  | cons r P ih =>
    have ih := ih fun r hr => h r (List.mem_cons_of_mem _ hr)
    unfold sumF at *
    simp only [List.filter_cons]
    cases hc : c r with
    | true =>
      simp only [if_true, List.map_cons, List.sum_cons]
      rw [Nat.add_mul, ih, h r (List.mem_cons_self ..) hc]
    | false => simpa using ih
theorem pow_split {a b c : Nat} (h1 : a ≤ b) (h2 : b ≤ c) : 2 ^ (b - a) * 2 ^ (c - b) = 2 ^ (c - a) := by
  rw [← Nat.pow_add]; congr 1; omega
/-- the widths together -/
def Kr (P : List Pr) : Prop := (P.map fun q => 2 ^ (25 - q.1)).sum = 2 ^ 25 ∧ ∀ q ∈ P, 1 ≤ q.1 ∧ q.1 ≤ 25
theorem sumF_all (P : List Pr) (f : Pr → Nat) : sumF P (fun _ => true) f = (P.map f).sum := by
  unfold sumF
  congr 2
  exact List.filter_eq_self.mpr fun _ _ => rfl
theorem num_lt {P : List Pr} (K : Kr P) {p : Pr} (hp : p ∈ P) : num P p < 2 ^ p.1 := by
  have l := (K.2 p hp).2
  have h1 : num P p * 2 ^ (25 - p.1) = sumF P (fun q => ltB q p) fun q => 2 ^ (25 - q.1) :=
    sumF_scale _ _ _ _ _ fun r hr c => by
      have := ltB_iff.mp c
      exact pow_split (by omega) l
  have h2 : (sumF P (fun q => ltB q p) fun q => 2 ^ (25 - q.1)) + 2 ^ (25 - p.1) ≤ sumF P (fun _ => true) fun q => 2 ^ (25 - q.1) :=
    sumF_add (f := fun q => 2 ^ (25 - q.1)) hp (fun _ _ => rfl) rfl (ltB_irr p)
  rw [sumF_all, K.1, ← h1] at h2
  have h3 : 2 ^ p.1 * 2 ^ (25 - p.1) = 2 ^ 25 := by rw [← Nat.pow_add]; congr 1; omega
  rw [← h3, ← Nat.succ_mul] at h2
  exact Nat.lt_of_succ_le (Nat.le_of_mul_le_mul_right h2 (Nat.pow_pos (by decide)))
theorem num_gap {P : List Pr} {p q : Pr} (hq : q ∈ P) (h : ltB q p = true) : (num P q + 1) * 2 ^ (p.1 - q.1) ≤ num P p := by
  have hle : q.1 ≤ p.1 := by have := ltB_iff.mp h; omega
  have h1 : num P q * 2 ^ (p.1 - q.1) = sumF P (fun r => ltB r q) fun r => 2 ^ (p.1 - r.1) :=
    sumF_scale _ _ _ _ _ fun r hr c => by
      have := ltB_iff.mp c
      exact pow_split (by omega) hle
  rw [Nat.succ_mul, h1]
  exact sumF_add (f := fun r => 2 ^ (p.1 - r.1)) hq (fun r c => ltB_trans c h) h (ltB_irr q)
theorem num_apart {P : List Pr} {p q : Pr} (hp : p ∈ P) (hq : q ∈ P) (hne : p ≠ q) (hle : q.1 ≤ p.1) : num P p / 2 ^ (p.1 - q.1) ≠ num P q := by
  intro e
  rcases ltB_tri hne with h | h
  · have hl := ltB_iff.mp h
    have e1 : p.1 = q.1 := by omega
    have g := num_gap hp h
    rw [e1, Nat.sub_self, Nat.pow_zero, Nat.div_one] at e
    rw [e1, Nat.sub_self, Nat.pow_zero, Nat.mul_one] at g
    omega
  · have g := num_gap hq h
    have := (Nat.le_div_iff_mul_le (Nat.pow_pos (by decide : 0 < 2))).mpr g
    omega
/-- a pair's word -/
def word (P : List Pr) (p : Pr) : List Nat := bitsL p.1 (num P p)
theorem word_len (P : List Pr) (p : Pr) : (word P p).length = p.1 := bits_len _ _
theorem word_free {P : List Pr} (K : Kr P) {p q : Pr} (hp : p ∈ P) (hq : q ∈ P) (h : word P q <+: word P p) : p = q := by
  refine Classical.byContradiction fun hne => ?_
  have hle : q.1 ≤ p.1 := by
    have := h.length_le
    rw [word_len, word_len] at this; exact this
  obtain ⟨b, hb⟩ : ∃ b, p.1 = q.1 + b := ⟨p.1 - q.1, by omega⟩
  have e := List.prefix_iff_eq_take.mp h
  rw [word_len] at e
  unfold word at e
  rw [hb, bits_add, List.take_append_of_le_length (by rw [bits_len]; exact Nat.le_refl _), List.take_of_length_le (by rw [bits_len]; exact Nat.le_refl _)] at e
  have e2 := bits_inj _ _ _ e
  rw [Nat.mod_eq_of_lt (num_lt K hq), Nat.mod_eq_of_lt] at e2
  · refine num_apart hp hq hne hle ?_
    rw [show p.1 - q.1 = b by omega]
    exact e2.symm
  · refine Nat.div_lt_of_lt_mul ?_
    have := num_lt K hp
    rw [hb, Nat.pow_add, Nat.mul_comm] at this
    exact this
/-! ### the other bits -/
def flip (c : Nat) : Nat := 97 - c
theorem flip_flip {c : Nat} (h : c = 48 ∨ c = 49) : flip (flip c) = c := by unfold flip; omega
def turned (w : List Nat) : List Nat := w.map flip
theorem turned_turned {w : List Nat} (h : ∀ c ∈ w, c = 48 ∨ c = 49) : turned (turned w) = w := by
  unfold turned
  rw [List.map_map]
  conv => rhs; rw [← List.map_id w]
  exact List.map_congr_left fun c hc => flip_flip (h c hc)
theorem turned_01 {w : List Nat} (h : ∀ c ∈ w, c = 48 ∨ c = 49) : ∀ c ∈ turned w, c = 48 ∨ c = 49 := fun c hc => by
  obtain ⟨d, hd, rfl⟩ := List.mem_map.mp hc
  have := h d hd
  unfold flip; omega
theorem turned_free {P : List Pr} (K : Kr P) {p q : Pr} (hp : p ∈ P) (hq : q ∈ P) (h : turned (word P q) <+: turned (word P p)) : p = q := by
  refine word_free K hp hq ?_
  have := h.map flip
  rw [show (turned (word P q)).map flip = turned (turned (word P q)) from rfl, show (turned (word P p)).map flip = turned (turned (word P p)) from rfl,
    turned_turned (w := word P q) (bits_01 _ _), turned_turned (w := word P p) (bits_01 _ _)] at this
  exact this
/-! ### the counter -/
theorem num_perm {P S : List Pr} (h : S.Perm P) (p : Pr) : num S p = num P p := by
  unfold num sumF
  exact ((h.filter _).map _).sum_nat
theorem num_sorted {S A B : List Pr} {p : Pr} (h : S.Pairwise fun a b => ltB a b = true) (e : S = A ++ p :: B) : num S p = (A.map fun q => 2 ^ (p.1 - q.1)).sum := by
  subst e
  rw [List.pairwise_append] at h
  obtain ⟨_, h2, h3⟩ := h
  have h4 := (List.pairwise_cons.mp h2).1
  unfold num sumF
  congr 2
  rw [List.filter_append, List.filter_cons, ltB_irr, List.filter_eq_self.mpr fun a ha => h3 a ha p (List.mem_cons_self ..), List.filter_eq_nil_iff.mpr, if_neg (by simp), List.append_nil]
  intro b hb c
  have := ltB_iff.mp (h4 b hb)
  have := ltB_iff.mp c
  omega
def acc (A : List Pr) (l : Nat) : Nat := (A.map fun q => 2 ^ (l - q.1)).sum
theorem acc_shift {A : List Pr} {a l : Nat} (h : ∀ q ∈ A, q.1 ≤ a) (hl : a ≤ l) : acc A a * 2 ^ (l - a) = acc A l := by
  induction A with
  | nil => unfold acc; simp
  | cons q A ih =>
    have ih := ih fun r hr => h r (List.mem_cons_of_mem _ hr)
    unfold acc at *
    simp only [List.map_cons, List.sum_cons, Nat.add_mul]
    rw [ih, pow_split (h q (List.mem_cons_self ..)) hl]
theorem acc_snoc (A : List Pr) (p : Pr) : acc (A ++ [p]) p.1 = acc A p.1 + 1 := by
  unfold acc
  simp
end KR

set_option Elab.async false
set_option linter.all false
set_option maxRecDepth 100000
set_option maxHeartbeats 4000000
/-! f"{n:b}" -/
namespace PySem
open PySem.Spec PyProof.Rows Builtin
section
variable {prog : Program} {w : World} {A : Around} {E : Value → Shared → Prop} {s : Shared}
/-- the bits of a number -/
def binText (n : Nat) : Str := ⟨((Nat.toDigits 2 n).map Char.toNat).toArray⟩
theorem toDigits_ne (n : Nat) : Nat.toDigits 2 n ≠ [] := by
  intro h
  have := Nat.length_toDigits_pos (b := 2) (n := n)
  rw [h] at this
  exact absurd this (by decide)
theorem field_bin (n : Nat) : intField' { align := 62, type := some 98 } (decide (((n : Nat) : Int) < 0)) [] ((Nat.toDigits 2 ((n : Nat) : Int).natAbs).map fun c => (if (98 : Nat) == 88 then c.toUpper else c).toNat) [] 4 = binText n := by
  have hn : ¬ (((n : Nat) : Int) < 0) := by omega
  have hc : (fun c : Char => (if ((98 : Nat) == 88) = true then c.toUpper else c).toNat) = Char.toNat := by
    funext c; rfl
  rw [hc, decide_eq_false hn, Int.natAbs_natCast]
  have hd : ((Nat.toDigits 2 n).map Char.toNat).isEmpty = false := by
    cases h : Nat.toDigits 2 n with
    | nil => exact absurd h (toDigits_ne n)
    | cons _ _ => rfl
  unfold intField' binText
  simp [hd]
theorem fmt_bin {n : Nat} {t : Tok} {Q : Value → Shared → Prop} (hz : (binText n).length ≤ sizeLine) (h : ∀ tk u, Q (.str (binText n) u) { s with toks := tk }) :
    wpAny (model prog w) A (formatField (.int (n : Int) t) "b") Q E s := by
  show wpAny _ _ (holding [.int (n : Int) t] (pyFormat (.int (n : Int) t) "b")) Q E s
  refine wpAny_holding ?_
  unfold pyFormat
  refine wpAny_bind (wpAny_mkStr ?_ (by decide +kernel))
  refine wpAny_bind (m := callSpecial? (.int (n : Int) t) (Str.ofString "__format__") [.str "b" s.toks]) (wpAny_callSpecial?_slot (name := Str.ofString "__format__") (typeIs_int _ _ t) slot_int_format ?_)
  refine wpAny_call (codeAny_call_builtin slot_int_format.plain entry_int_format (slot_int_format.check _ _ _ _ _ _ _ _ (typeIs_int _ _ t) (args_int_format _ _) ?_))
  unfold Builtin.«int.__format__»
  simp only [selfAndOne, noKeywords, Int.intOfSelf, asInt?, asStr?, List.isEmpty_nil, if_true, pure_bind, bind_pure, bind_assoc, Bool.false_eq_true, if_false, show (Value.str "b" s.toks == Value.none) = false from rfl]
  refine wpAny_bind (wpAny_typeNameOf (T := "str") (typeIs_str _ _ _) (by decide) fun _ => ?_)
  rw [if_neg (by decide +kernel)]
  rw [if_neg (by decide +kernel)]
  first | refine wpAny_bind (wpAny_typeNameOfCut_int ?_) | refine wpAny_bind (wpAny_typeNameOf_int ?_)
  have hp : Builtin.Float.parseFormatSpec (Str.ofString "b").cps.toList "int" 62 = .ok { align := 62, type := some 98 } := by rfl
  rw [hp]
  dsimp only
  rw [if_pos (by decide +kernel)]
  conv => arg 3; whnf
  have hT : ∀ f : Nat → Str → Prop, f 0 (binText n) → f 0 (intField' { align := 62, type := some 98 } (decide (((n : Nat) : Int) < 0)) [] ((Nat.toDigits 2 ((n : Nat) : Int).natAbs).map fun c => (if (98 : Nat) == 88 then c.toUpper else c).toNat) [] 4) := fun f h => by rw [field_bin]; exact h
  generalize decide (((n : Nat) : Int) < 0) = neg at hT ⊢
  generalize Nat.toDigits 2 ((n : Nat) : Int).natAbs = ds at hT ⊢
  refine wpAny_bind (m := mkStr _) (wpAny_mkStr (wpAny_pure ?_) ?hs)
  case hs => exact hT (fun _ x => x.length ≤ sizeLine) hz
  dsimp only
  refine wpAny_bind (wpAny_isInstance (typeIs_str _ _ _) isSubtype_str_str (wpAny_pure ?_))
  exact hT (fun _ x => Q (.str x _) _) (h _ _)
end
end PySem
namespace L2
open PySem PySem.Spec PyProof.Rows
section
variable {X : Cx}
/-- {n:b} -/
def tFmtB (te : TE) : TE := fun σ H Q => te σ H fun x H1 => ∃ n : Nat, x = .int (n : Int) ∧ (binText n).length ≤ sizeLine ∧ Q (.str (binText n)) H1
theorem pe_fmtB {e : Expr} {te : TE} {k : Nat} {p1 p2 pos : Pos} (he : PE X e te) : PE X (.FormattedValue e (-1) (some (.JoinedStr [.Constant (.str "b") k p1] p2)) pos) (tFmtB te) := by
  refine ⟨fun pins s σ H Q I h => ?_⟩
  refine wpAny_FormattedValue_spec (thn (he.run pins s σ H _ I h) fun v s1 ⟨x, H1, I1, r1, n, ex, hz, q⟩ => ?_)
  subst ex
  obtain ⟨t, rfl⟩ := r1
  refine wpAny_JoinedStr_one (Calls.Constant_str ⟨"b", _, rfl, ?_⟩)
  exact fmt_bin hz fun tk u => ⟨.str (binText n), H1, I1.tok _, ⟨_, rfl⟩, q⟩
end
end L2

set_option Elab.async false
set_option linter.all false
set_option maxRecDepth 100000
set_option maxHeartbeats 4000000
/-! texts of bits: zfill of f"{n:b}", startswith, count, the three replaces -/
namespace KR
open PySem PySem.Spec PyProof.Rows Builtin Builtin.Str StrLaws L2
theorem core_bits : ∀ (fuel n k : Nat) (ds : List Char), 1 ≤ k → n < 2 ^ k → n < fuel → ∃ l, (Nat.toDigitsCore 2 fuel n ds).map Char.toNat = l ++ ds.map Char.toNat ∧ l.length ≤ k ∧ l ≠ [] ∧ bitsL k n = List.replicate (k - l.length) 48 ++ l
  | 0, n, k, ds, _, _, h => absurd h (Nat.not_lt_zero _)
  | fuel + 1, n, k, ds, hk, hn, hf => by
    obtain ⟨k, rfl⟩ : ∃ j, k = j + 1 := ⟨k - 1, by omega⟩
    have hd : (Nat.digitChar (n % 2)).toNat = 48 + n % 2 := by
      rcases Nat.mod_two_eq_zero_or_one n with e | e <;> rw [e] <;> rfl
    unfold Nat.toDigitsCore
    by_cases h0 : n / 2 = 0
    · refine ⟨[48 + n % 2], ?_, by simp, by simp, ?_⟩
      · simp only [h0, if_true, List.map_cons, hd]; rfl
      · show bitsL k (n / 2) ++ _ = _
        rw [h0, bits_zero]; rfl
    · simp only [h0, if_false]
      have hk2 : 1 ≤ k := by
        rcases Nat.eq_zero_or_pos k with e | e
        · subst e; exfalso; apply h0; omega
        · exact e
      have hn' : n / 2 < 2 ^ k := by rw [Nat.pow_succ] at hn; omega
      obtain ⟨l, e, hl, hne, eb⟩ := core_bits fuel (n / 2) k (Nat.digitChar (n % 2) :: ds) hk2 hn' (by omega)
      refine ⟨l ++ [48 + n % 2], ?_, by simp; omega, by simp, ?_⟩
      · rw [e, List.map_cons, hd]; simp
      · show bitsL k (n / 2) ++ _ = _
        rw [eb, List.length_append, List.append_assoc]
        congr 2
        simp
theorem bin_bits {n k : Nat} (hk : 1 ≤ k) (hn : n < 2 ^ k) : ∃ l, (binText n).cps.toList = l ∧ l.length ≤ k ∧ l ≠ [] ∧ bitsL k n = List.replicate (k - l.length) 48 ++ l := by
  obtain ⟨l, e, h⟩ := core_bits (n + 1) n k [] hk hn (Nat.lt_succ_self _)
  refine ⟨l, ?_, h⟩
  show ((Nat.toDigits 2 n).map Char.toNat).toArray.toList = l
  rw [show Nat.toDigits 2 n = Nat.toDigitsCore 2 (n + 1) n [] from rfl, e]
  simp
/-- a text of its signs -/
def txt (l : List Nat) : Str := ⟨l.toArray⟩
theorem txt_of {x : Str} {l : List Nat} (h : x.cps.toList = l) : x = txt l := by
  cases x with
  | mk a => subst h; simp [txt]
theorem txt_inj {a b : List Nat} (h : txt a = txt b) : a = b := by
  unfold txt at h
  injection h with h
  simpa using congrArg Array.toList h
theorem txt_len (l : List Nat) : (txt l).length = l.length := by simp [txt, Str.length]
theorem bin_len {n k : Nat} (hk : 1 ≤ k) (hn : n < 2 ^ k) : (binText n).length ≤ k := by
  obtain ⟨l, e, h, _⟩ := bin_bits hk hn
  rw [txt_of e, txt_len]; exact h
theorem zfill_bin {n k : Nat} (hk : 1 ≤ k) (hn : n < 2 ^ k) : Txt.zfill (binText n) (k : Int) = txt (bitsL k n) := by
  obtain ⟨l, e, hl, hne, eb⟩ := bin_bits hk hn
  have e1 := txt_of e
  rw [e1]
  unfold Txt.zfill
  rw [txt_len]
  by_cases c : (k : Int) ≤ (l.length : Int)
  · rw [if_pos c, eb, show k - l.length = 0 by omega]; rfl
  · rw [if_neg c, eb, Int.toNat_natCast]
    cases l with
    | nil => exact absurd rfl hne
    | cons a r =>
      have ha : a = 48 ∨ a = 49 := bits_01 k n a (by rw [eb]; simp)
      have hz : ∀ m, zfilled (txt (a :: r)) m = padded (txt (a :: r)) m 0 48 := fun m => by
        unfold zfilled
        have : (txt (a :: r)).cps[0]? = some a := by simp [txt]
        rw [this]
        rcases ha with rfl | rfl <;> rfl
      rw [hz]
      refine txt_of ?_
      simp [padded, txt]
theorem sw_iff {a b : List Nat} : Txt.startswith (txt a) (txt b) = true ↔ b <+: a := by
  unfold Txt.startswith Builtin.Str.subAt
  rw [Bool.and_eq_true, decide_eq_true_eq, Nat.zero_add, txt_len, txt_len]
  have e : ((txt a).cps.extract 0 b.length == (txt b).cps) = true ↔ a.take b.length = b := by
    rw [beq_iff_eq]
    constructor
    · intro h
      have := congrArg Array.toList h
      simpa [txt] using this
    · intro h
      apply Array.toList_inj.mp
      simpa [txt] using h
  rw [e, List.prefix_iff_eq_take]
  constructor
  · rintro ⟨_, h⟩; exact h.symm
  · intro h
    refine ⟨?_, h.symm⟩
    have := congrArg List.length h
    rw [List.length_take] at this
    omega
theorem count_bits {l : List Nat} (h : ∀ c ∈ l, c = 48 ∨ c = 49) : Txt.count (txt l) ⟨#[48]⟩ + Txt.count (txt l) ⟨#[49]⟩ = (l.length : Int) := by
  rw [count_cnt, count_cnt]
  show cnt 48 l.toArray.toList + cnt 49 l.toArray.toList = _
  rw [show l.toArray.toList = l by simp]
  induction l with
  | nil => rfl
  | cons a r ih =>
    have ih := ih fun c hc => h c (List.mem_cons_of_mem _ hc)
    rw [cnt_cons, cnt_cons, List.length_cons]
    rcases h a (List.mem_cons_self ..) with rfl | rfl
    · rw [if_pos rfl, if_neg (by decide)]; omega
    · rw [if_neg (by decide), if_pos rfl]; omega
theorem repl1 (c d : Nat) : ∀ l : List Nat, replL [c] [d] l = l.map fun x => if x = c then d else x
  | [] => replL_nil
  | a :: r => by
    by_cases e : a = c
    · subst e
      rw [replL_hit (by simp) (by simp)]
      simp [repl1 a d r]
    · rw [replL_miss (by simp [e])]
      simp [e, repl1 c d r]
theorem repl_txt (c d : Nat) (l : List Nat) : Txt.replace (txt l) ⟨#[c]⟩ ⟨#[d]⟩ = txt (l.map fun x => if x = c then d else x) := by
  refine txt_of ?_
  rw [replace_list (by simp [Str.length])]
  show replL [c] [d] l.toArray.toList = _
  rw [show l.toArray.toList = l by simp, repl1]
theorem turn_txt {l : List Nat} (h : ∀ c ∈ l, c = 48 ∨ c = 49) : Txt.replace (Txt.replace (Txt.replace (txt l) ⟨#[48]⟩ ⟨#[50]⟩) ⟨#[49]⟩ ⟨#[48]⟩) ⟨#[50]⟩ ⟨#[49]⟩ = txt (turned l) := by
  rw [repl_txt, repl_txt, repl_txt, List.map_map, List.map_map]
  congr 1
  refine List.map_congr_left fun c hc => ?_
  rcases h c hc with rfl | rfl <;> rfl
end KR

set_option Elab.async false
set_option linter.all false
set_option maxRecDepth 100000
set_option maxHeartbeats 4000000
/-! text * int; text[::-1]; xs != [] -/
namespace XV
open PySem PySem.Spec PyProof.Rows L2
section
variable {X : Cx}
theorem op_repS : OpR X (binaryOp .Mult) (fun x y H Q => ∃ (z : Str) (n : Int), x = .str z ∧ y = .int n ∧ z.length = 1 ∧ 0 ≤ n ∧ n ≤ 100 ∧ ∀ r : Str, r.length = n.toNat → Q (.str r) H) := by
  intro pins s σ H x y v u Q I rx ry h
  obtain ⟨z, n, rfl, rfl, hz, h0, h1, q⟩ := h
  obtain ⟨t, rfl⟩ := rx
  obtain ⟨t', rfl⟩ := ry
  have hok : MulOk z n := by
    refine ⟨?_, fun _ _ => ?_, fun _ _ => ?_⟩
    · rw [decide_eq_false (by omega), decide_eq_false (by omega)]; rfl
    · rw [hz]
      have : (2 ^ 63 - 1 : Int) / n ≥ 1 := by
        have hn : 0 < n := by omega
        exact (Int.le_ediv_iff_mul_le hn).mpr (by omega)
      omega
    · rw [hz, Nat.one_mul]
      unfold PySem.Builtin.Str.tooLong
      rw [decide_eq_false]
      have : n.toNat ≤ 100 := by omega
      exact fun z => absurd (Nat.lt_of_lt_of_le z this) (by decide)
  have hl : (Txt.mul z n).length = n.toNat := by
    have := PyProof.Rows.len_mul z n
    rw [hz, decide_eq_false (by omega)] at this
    simp at this
    omega
  exact SB.mul hok fun t2 k => ⟨.str _, H, I.tok _, ⟨_, rfl⟩, q _ hl⟩
theorem op_neE (hu : X.A.units + 64 < cLine) : OpR X (compareOp .NotEq) (fun x y H Q => ∃ (a b : Addr) (xs : List V), x = .ref a ∧ y = .ref b ∧ H a = some (.lst xs) ∧ H b = some (.lst []) ∧ Q (.bl (!decide (xs.length = 0))) H) := by
  intro pins s σ H x y v u Q I rx ry h
  obtain ⟨a, b, xs, rfl, rfl, ha, hb, q⟩ := h
  cases rx
  cases ry
  obtain ⟨its, r, pl, hz⟩ := I.list (SqL.of ha)
  obtain ⟨its2, r2, pl2, hz2⟩ := I.list (SqL.of hb)
  have e2 : its2 = [] := by cases r2; rfl
  subst e2
  have hl := r.length
  by_cases c : xs.length = 0
  · rw [decide_eq_true c] at q
    have e1 : its = [] := List.eq_nil_of_length_eq_zero (by omega)
    subst e1
    refine SeqAt.RcNeAt.lists (e := fun _ => true) pl.isList pl2.isList rfl (by omega) (fun j h1 => absurd h1 (Nat.not_lt_zero _)) _ _ _ _ ⟨.bl _, H, I, rfl, ?_⟩
    exact q
  · rw [decide_eq_false c] at q
    refine SeqAt.RcNeAt.lists_lengths pl.isList pl2.isList (by simp; intro z; rw [z] at hl; exact c (hl.trans rfl)) (by omega) _ _ _ _ ⟨.bl _, H, I, rfl, ?_⟩
    exact q
def tRevS (te : TE) : TE := fun σ H Q => te σ H fun x H1 => ∃ z : Str, x = .str z ∧ z.length ≤ sizeLine ∧ ∀ r : Str, r.length ≤ z.length → Q (.str r) H1
theorem pe_revS {e : Expr} {te : TE} {k : Nat} {p1 p2 p3 pos : Pos} (he : PE X e te) : PE X (.Subscript e (.Slice none none (some (.UnaryOp .USub (.Constant (.int 1) k p1) p2)) p3) pos) (tRevS te) := by
  refine ⟨fun pins s σ H Q I h => ?_⟩
  refine Subscript_ (thn (he.run pins s σ H _ I h) fun v s1 ⟨x, H1, I1, r1, q1⟩ => ?_)
  obtain ⟨z, ex, hz, q⟩ := q1
  subst ex
  obtain ⟨t, rfl⟩ := r1
  have hst : PO X (some (.UnaryOp .USub (.Constant (.int 1) k p1) p2)) (tPart (tUn (rU fun i => .int (-i)) (tC (.int 1)))) := po_some (pe_un un_neg pe_int)
  refine wpAny_Slice (thn (po_none.run pins s1 σ H1 (fun o H2 => o = none ∧ H2 = H1) I1 ⟨rfl, rfl⟩) fun vl s2 ⟨l, H2, I2, pl, el, e2⟩ => ?_)
  subst el e2
  refine thn (po_none.run pins s2 σ H2 (fun o H3 => o = none ∧ H3 = H2) I2 ⟨rfl, rfl⟩) fun vu s3 ⟨u, H3, I3, pu, eu, e3⟩ => ?_
  subst eu e3
  refine thn (hst.run pins s3 σ H3 (fun o H4 => o = some (-1) ∧ H4 = H3) I3 ⟨1, rfl, -1, rfl, rfl, rfl⟩) fun vs s4 ⟨o, H4, I4, ps, eo, e4⟩ => ?_
  subst eo e4
  have I5 : Inv X pins σ H4 { s4 with heap := s4.heap.push { cls := .type "slice", data := .fields #[vl, vu, vs] } } := I4.kept (t' := s4.toks) fun b ob q => Heap.get?_push_of_some _ q
  obtain ⟨uk, hvs⟩ : ∃ uk, vs = .int (-1) uk := by cases ps; exact ⟨_, rfl⟩
  have hvl : vl = .none := by cases pl; rfl
  have hvu : vu = .none := by cases pu; rfl
  subst hvl hvu hvs
  refine tail_any (ops := [.ref s4.heap.objs.size, .str z t]) (typeIs_str _ _ _) F.slot_str_getitem.lookup ?_ (by with_unfolding_all rfl)
  refine wpAny_getItem_str_slice (l := none) (u := none) (st := some (-1, uk)) ⟨_, Heap.get?_push_size _ rfl, rfl, rfl⟩ rfl (post_val_or_str ⟨Nat.le_trans (Txt.sliceBy_le z _ _ (-1, uk) (by show (-1 : Int) ≠ 0; decide)) hz, fun t' c => ⟨.str _, H4, I5.tok _, ⟨_, rfl⟩, q _ (Txt.sliceBy_le z _ _ (-1, uk) (by show (-1 : Int) ≠ 0; decide))⟩⟩)
end
end XV

set_option Elab.async false
set_option linter.all false
set_option maxRecDepth 100000
set_option maxHeartbeats 8000000
/-! the program's text by places, and what the top has written -/
namespace Z
open PySem L2 XV
def top (i : Nat) : Stmt := PySem.Challenge.pw_leastjoined_k36_codes_refused.main.body.getD i (.Pass ⟨0, 0, 0, 0⟩)
abbrev s_isint : Stmt := top 3
abbrev s_kept : Stmt := top 4
abbrev s_checkmany : Stmt := top 18
abbrev s_checkcounts : Stmt := top 19
abbrev s_lens : Stmt := top 20
abbrev s_isword : Stmt := top 21
abbrev s_cwords : Stmt := top 22
abbrev s_canon : Stmt := top 23
abbrev s_penof : Stmt := top 33
abbrev s_draw : Stmt := top 34
abbrev s_pick : Stmt := top 35
abbrev s_countsof : Stmt := top 36
abbrev s_lof : Stmt := top 37
abbrev s_two : Stmt := top 38
abbrev s_words : Stmt := top 39
abbrev s_refusal : Stmt := top 40
abbrev s_iswhole : Stmt := top 41
abbrev s_countsdue : Stmt := top 42
abbrev s_codedue : Stmt := top 43
abbrev s_spoilt : Stmt := top 44
abbrev s_law : Stmt := top 45
abbrev s_TooMany : Stmt := inClass (top 7) 0
abbrev s_BadCount : Stmt := inClass (top 8) 0
abbrev s_BadLength : Stmt := inClass (top 9) 0
abbrev s_NotFull : Stmt := inClass (top 10) 0
abbrev s_BadWord : Stmt := inClass (top 11) 0
abbrev s_Begins : Stmt := inClass (top 12) 0
abbrev s_BadOver : Stmt := inClass (top 13) 0
abbrev s_init : Stmt := inClass (top 24) 0
abbrev s_rinit : Stmt := inClass (top 31) 0
/-- where the defs and classes stand -/
structure Ad where
  a_isint : Addr
  d_isint : FuncData
  a_kept : Addr
  d_kept : FuncData
  a_checkmany : Addr
  d_checkmany : FuncData
  a_checkcounts : Addr
  d_checkcounts : FuncData
  a_lens : Addr
  d_lens : FuncData
  a_isword : Addr
  d_isword : FuncData
  a_cwords : Addr
  d_cwords : FuncData
  a_canon : Addr
  d_canon : FuncData
  a_penof : Addr
  d_penof : FuncData
  a_draw : Addr
  d_draw : FuncData
  a_pick : Addr
  d_pick : FuncData
  a_countsof : Addr
  d_countsof : FuncData
  a_lof : Addr
  d_lof : FuncData
  a_two : Addr
  d_two : FuncData
  a_words : Addr
  d_words : FuncData
  a_refusal : Addr
  d_refusal : FuncData
  a_iswhole : Addr
  d_iswhole : FuncData
  a_countsdue : Addr
  d_countsdue : FuncData
  a_codedue : Addr
  d_codedue : FuncData
  a_spoilt : Addr
  d_spoilt : FuncData
  a_law : Addr
  k_law : Addr
  p_law : Addr
  d_law : FuncData
  cj : Addr
  c_Code : Addr
  a_init : Addr
  d_init : FuncData
  c_Ratio : Addr
  a_rinit : Addr
  d_rinit : FuncData
  c_TooMany : Addr
  i_TooMany : Addr
  d_TooMany : FuncData
  c_BadCount : Addr
  i_BadCount : Addr
  d_BadCount : FuncData
  c_BadLength : Addr
  i_BadLength : Addr
  d_BadLength : FuncData
  c_NotFull : Addr
  i_NotFull : Addr
  d_NotFull : FuncData
  c_BadWord : Addr
  i_BadWord : Addr
  d_BadWord : FuncData
  c_Begins : Addr
  i_Begins : Addr
  d_Begins : FuncData
  c_BadOver : Addr
  i_BadOver : Addr
  d_BadOver : FuncData
/-- what a class of the errors says -/
structure Ec (K : PySem.W.Frag) (mg : Str → Option Value) (cj C fI : Addr) (x qual : Str) (st : Stmt) (fd : FuncData) (fs : List Str) : Prop where
  E : ErrC K C fI
  R : ErrR K C
  F : Fun K "__init__" qual st fI fd
  g : mg x = some (.ref C)
  m : ∃ cd, PySem.W.clsIn K C = some cd ∧ cd.mro = [.ref C, .ref cj, .type "ValueError", .type "Exception", .type "BaseException", .type "object"]
  ty : PySem.W.typeIn K (.ref C) = some (.type "type")
  b : KBn K fd ("self" :: fs) (fs.length + 1) [] (fun us _ => us) (fun vs _ => vs)
  bb : Binds K fd ("self" :: fs) []
  no : ∀ f ∈ fs, PySem.W.findIn K (.ref C) f = some none
/-- the class Code, and the class Ratio as what is no int -/
structure Cc (K : PySem.W.Frag) (C fI : Addr) : Prop where
  M : Mk K C fI
  cl : Cls K C
  n_lengths : NoAttr K C "lengths"
  n_words : NoAttr K C "words"
  n_size : NoAttr K C "size"
  n_longest : NoAttr K C "longest"
/-- of a class whose objects are looked at by isinstance only -/
structure Ic (K : PySem.W.Frag) (C : Addr) : Prop where
  cl : Cls K C
  ha : PySem.W.findIn K (.ref C) "__class__" = some (some (.builtin "object.__class__"))
  hn : PySem.W.specialIn K (.builtin "object.__class__") "__get__" = some (some (.builtin "getset_descriptor.__get__"))
  ht : PySem.W.takesIn K (.builtin "object.__class__") = some true
  hm : PySem.W.mroIn K C (.type "object") = some true
  ki : PySem.W.kitOne K (.ref C) (.type "int") = some false
  ks : PySem.W.kitOne K (.ref C) (.type "str") = some false
structure Rc (K : PySem.W.Frag) (C fI : Addr) : Prop where
  M : Mk K C fI
  cl : Cls K C
  n_number : NoAttr K C "number"
  n_over : NoAttr K C "over"
structure Txt (K : PySem.W.Frag) (mg : Str → Option Value) (A : Ad) : Prop where
  F_isint : Fun K "is_int" "is_int" s_isint A.a_isint A.d_isint
  g_isint : mg "is_int" = some (.ref A.a_isint)
  b_isint : Binds K A.d_isint ["value"] []
  F_kept : Fun K "kept" "kept" s_kept A.a_kept A.d_kept
  g_kept : mg "kept" = some (.ref A.a_kept)
  b_kept : Binds K A.d_kept ["value"] []
  F_checkmany : Fun K "check_many" "check_many" s_checkmany A.a_checkmany A.d_checkmany
  g_checkmany : mg "check_many" = some (.ref A.a_checkmany)
  b_checkmany : Binds K A.d_checkmany ["many"] []
  F_checkcounts : Fun K "check_counts" "check_counts" s_checkcounts A.a_checkcounts A.d_checkcounts
  g_checkcounts : mg "check_counts" = some (.ref A.a_checkcounts)
  b_checkcounts : Binds K A.d_checkcounts ["counts"] []
  F_lens : Fun K "check_lengths" "check_lengths" s_lens A.a_lens A.d_lens
  g_lens : mg "check_lengths" = some (.ref A.a_lens)
  b_lens : Binds K A.d_lens ["lengths"] []
  F_isword : Fun K "is_word" "is_word" s_isword A.a_isword A.d_isword
  g_isword : mg "is_word" = some (.ref A.a_isword)
  b_isword : Binds K A.d_isword ["value", "length"] []
  F_cwords : Fun K "check_words" "check_words" s_cwords A.a_cwords A.d_cwords
  g_cwords : mg "check_words" = some (.ref A.a_cwords)
  b_cwords : Binds K A.d_cwords ["words", "lengths"] []
  F_canon : Fun K "canonical_words" "canonical_words" s_canon A.a_canon A.d_canon
  g_canon : mg "canonical_words" = some (.ref A.a_canon)
  b_canon : Binds K A.d_canon ["lengths"] []
  F_penof : Fun K "_law_pen_of" "_law_pen_of" s_penof A.a_penof A.d_penof
  g_penof : mg "_law_pen_of" = some (.ref A.a_penof)
  b_penof : Binds K A.d_penof ["_law_script"] []
  F_draw : Fun K "_law_draw" "_law_draw" s_draw A.a_draw A.d_draw
  g_draw : mg "_law_draw" = some (.ref A.a_draw)
  b_draw : Binds K A.d_draw ["_law_pen", "_law_many"] []
  F_pick : Fun K "_law_pick" "_law_pick" s_pick A.a_pick A.d_pick
  g_pick : mg "_law_pick" = some (.ref A.a_pick)
  b_pick : Binds K A.d_pick ["_law_pen", "_law_items"] []
  F_countsof : Fun K "_law_counts_of" "_law_counts_of" s_countsof A.a_countsof A.d_countsof
  g_countsof : mg "_law_counts_of" = some (.ref A.a_countsof)
  b_countsof : Binds K A.d_countsof ["_law_pen", "_law_many"] []
  F_lof : Fun K "_law_lengths_of" "_law_lengths_of" s_lof A.a_lof A.d_lof
  g_lof : mg "_law_lengths_of" = some (.ref A.a_lof)
  b_lof : Binds K A.d_lof ["_law_pen", "_law_many"] []
  F_two : Fun K "_law_two_to" "_law_two_to" s_two A.a_two A.d_two
  g_two : mg "_law_two_to" = some (.ref A.a_two)
  b_two : Binds K A.d_two ["_law_many"] []
  F_words : Fun K "_law_words" "_law_words" s_words A.a_words A.d_words
  g_words : mg "_law_words" = some (.ref A.a_words)
  b_words : Binds K A.d_words ["_law_lengths"] []
  F_refusal : Fun K "_law_refusal" "_law_refusal" s_refusal A.a_refusal A.d_refusal
  g_refusal : mg "_law_refusal" = some (.ref A.a_refusal)
  b_refusal : Binds K A.d_refusal ["_law_call"] []
  F_iswhole : Fun K "_law_is_whole" "_law_is_whole" s_iswhole A.a_iswhole A.d_iswhole
  g_iswhole : mg "_law_is_whole" = some (.ref A.a_iswhole)
  b_iswhole : Binds K A.d_iswhole ["_law_value", "_law_least"] []
  F_countsdue : Fun K "_law_counts_due" "_law_counts_due" s_countsdue A.a_countsdue A.d_countsdue
  g_countsdue : mg "_law_counts_due" = some (.ref A.a_countsdue)
  b_countsdue : Binds K A.d_countsdue ["_law_counts"] []
  F_codedue : Fun K "_law_code_due" "_law_code_due" s_codedue A.a_codedue A.d_codedue
  g_codedue : mg "_law_code_due" = some (.ref A.a_codedue)
  b_codedue : Binds K A.d_codedue ["_law_lengths", "_law_words_here"] []
  F_spoilt : Fun K "_law_spoilt" "_law_spoilt" s_spoilt A.a_spoilt A.d_spoilt
  g_spoilt : mg "_law_spoilt" = some (.ref A.a_spoilt)
  b_spoilt : Binds K A.d_spoilt ["_law_pen", "_law_items", "_law_odd"] []
  F_law : FunC K "law" "law" s_law A.a_law A.d_law A.k_law
  g_law : mg "law" = some (.ref A.a_law)
  b_law : Binds K A.d_law ["_law_script"] []
  Co : Cc K A.c_Code A.a_init
  Ico : Ic K A.c_Code
  g_Code : mg "Code" = some (.ref A.c_Code)
  F_init : FunD K "__init__" "Code.__init__" (defArgs s_init) (defBody s_init) (defScope s_init) [.non] [] A.a_init A.d_init
  b_init1 : ∃ ds, Vals [.non] ds ∧ Binds K A.d_init ["self", "lengths", "words"] ds
  b_init2 : Binds K A.d_init ["self", "lengths", "words"] []
  Ro : Rc K A.c_Ratio A.a_rinit
  Iro : Ic K A.c_Ratio
  g_Ratio : mg "Ratio" = some (.ref A.c_Ratio)
  F_rinit : FunD K "__init__" "Ratio.__init__" (defArgs s_rinit) (defBody s_rinit) (defScope s_rinit) [.int 1] [] A.a_rinit A.d_rinit
  b_rinit2 : Binds K A.d_rinit ["self", "number", "over"] []
  z_gcd : mg "gcd" = some (.builtin "math.gcd")
  nj_TooMany : A.c_TooMany ≠ A.cj
  n_TooMany_BadCount : A.c_TooMany ≠ A.c_BadCount
  n_TooMany_BadLength : A.c_TooMany ≠ A.c_BadLength
  n_TooMany_NotFull : A.c_TooMany ≠ A.c_NotFull
  n_TooMany_BadWord : A.c_TooMany ≠ A.c_BadWord
  n_TooMany_Begins : A.c_TooMany ≠ A.c_Begins
  n_TooMany_BadOver : A.c_TooMany ≠ A.c_BadOver
  nj_BadCount : A.c_BadCount ≠ A.cj
  n_BadCount_BadLength : A.c_BadCount ≠ A.c_BadLength
  n_BadCount_NotFull : A.c_BadCount ≠ A.c_NotFull
  n_BadCount_BadWord : A.c_BadCount ≠ A.c_BadWord
  n_BadCount_Begins : A.c_BadCount ≠ A.c_Begins
  n_BadCount_BadOver : A.c_BadCount ≠ A.c_BadOver
  nj_BadLength : A.c_BadLength ≠ A.cj
  n_BadLength_NotFull : A.c_BadLength ≠ A.c_NotFull
  n_BadLength_BadWord : A.c_BadLength ≠ A.c_BadWord
  n_BadLength_Begins : A.c_BadLength ≠ A.c_Begins
  n_BadLength_BadOver : A.c_BadLength ≠ A.c_BadOver
  nj_NotFull : A.c_NotFull ≠ A.cj
  n_NotFull_BadWord : A.c_NotFull ≠ A.c_BadWord
  n_NotFull_Begins : A.c_NotFull ≠ A.c_Begins
  n_NotFull_BadOver : A.c_NotFull ≠ A.c_BadOver
  nj_BadWord : A.c_BadWord ≠ A.cj
  n_BadWord_Begins : A.c_BadWord ≠ A.c_Begins
  n_BadWord_BadOver : A.c_BadWord ≠ A.c_BadOver
  nj_Begins : A.c_Begins ≠ A.cj
  n_Begins_BadOver : A.c_Begins ≠ A.c_BadOver
  nj_BadOver : A.c_BadOver ≠ A.cj
  B : BaseC K A.cj
  gj : mg "JoinsError" = some (.ref A.cj)
  cj : (PySem.W.clsIn K A.cj).isSome = true
  tj : PySem.W.typeIn K (.ref A.cj) = some (.type "type")
  E_TooMany : Ec K mg A.cj A.c_TooMany A.i_TooMany "TooMany" "TooMany.__init__" s_TooMany A.d_TooMany ["what", "many", "most"]
  E_BadCount : Ec K mg A.cj A.c_BadCount A.i_BadCount "BadCount" "BadCount.__init__" s_BadCount A.d_BadCount ["index"]
  E_BadLength : Ec K mg A.cj A.c_BadLength A.i_BadLength "BadLength" "BadLength.__init__" s_BadLength A.d_BadLength ["index"]
  E_NotFull : Ec K mg A.cj A.c_NotFull A.i_NotFull "NotFull" "NotFull.__init__" s_NotFull A.d_NotFull []
  E_BadWord : Ec K mg A.cj A.c_BadWord A.i_BadWord "BadWord" "BadWord.__init__" s_BadWord A.d_BadWord ["index"]
  E_Begins : Ec K mg A.cj A.c_Begins A.i_Begins "Begins" "Begins.__init__" s_Begins A.d_Begins ["index", "other"]
  E_BadOver : Ec K mg A.cj A.c_BadOver A.i_BadOver "BadOver" "BadOver.__init__" s_BadOver A.d_BadOver []
  k_FEWEST_SIGNS : ∃ t, mg "FEWEST_SIGNS" = some (.int (2) t)
  k_MOST_SIGNS : ∃ t, mg "MOST_SIGNS" = some (.int (26) t)
  k_LONGEST_WORD : ∃ t, mg "LONGEST_WORD" = some (.int (25) t)
  z_ValueError : mg "ValueError" = none
  z_abs : mg "abs" = none
  z_all : mg "all" = none
  z_bool : mg "bool" = none
  z_dict : mg "dict" = none
  z_enumerate : mg "enumerate" = none
  z_int : mg "int" = none
  z_isinstance : mg "isinstance" = none
  z_len : mg "len" = none
  z_list : mg "list" = none
  z_max : mg "max" = none
  z_range : mg "range" = none
  z_sorted : mg "sorted" = none
  z_str : mg "str" = none
  z_sum : mg "sum" = none
  z_tuple : mg "tuple" = none
end Z

set_option Elab.async false
set_option linter.all false
set_option maxRecDepth 100000
set_option maxHeartbeats 8000000
/-! odd values; kept; the errors' own __init__; counts are checked -/
namespace Z
open PySem L2 XV
theorem passX {X : Cx} : Passes (L2.CX X.prog X.w) X (fun _ _ _ => False) := fun _ _ _ _ _ _ _ h => by
  obtain ⟨_, _, _, _, _, _, _, _, _, _, _, _, e⟩ := h
  exact e.elim
theorem same_new {H : Hp} {p : Addr} {o : HO} (h : H p = none) : Same H (upd H p o) := fun b u e => by rw [upd_ne (ne_of_none e h)]; exact e
theorem yes_of {σ : L2.St} {H : Hp} {B C : Bool → Hp → Prop} (h : B true H) : tYes σ H (fun b H3 => if b = true then B b H3 else C b H3) := by
  unfold tYes
  show if true = true then B true H else C true H
  rw [if_pos rfl]
  exact h
inductive Odd (K : PySem.W.Frag) (H : Hp) : V → Prop
  | non : Odd K H .non
  | bl (b : Bool) : Odd K H (.bl b)
  | int (i : Int) : Odd K H (.int i)
  | str (x : Str) : Odd K H (.str x)
  | lst {a : Addr} {xs : List V} (h : H a = some (.lst xs)) : Odd K H (.ref a)
  | tup {a : Addr} {xs : List V} (h : H a = some (.tup xs)) : Odd K H (.ref a)
  | dct {a : Addr} {kvs : List (Key × V)} (h : H a = some (.dK kvs)) : Odd K H (.ref a)
  | ins {a C dx : Addr} {fs : List (Str × V)} (h : H a = some (.ins C dx fs)) (I : Ic K C) : Odd K H (.ref a)
theorem Odd.same {K : PySem.W.Frag} {H G : Hp} {v : V} (h : Odd K H v) (s : Same H G) : Odd K G v := by
  cases h with
  | non => exact .non
  | bl b => exact .bl b
  | int i => exact .int i
  | str x => exact .str x
  | lst h => exact .lst (s _ _ h)
  | tup h => exact .tup (s _ _ h)
  | dct h => exact .dct (s _ _ h)
  | ins h I => exact .ins (s _ _ h) I
def isI : V → Bool
  | .int _ => true
  | _ => false
def isC : V → Bool
  | .int i => decide (0 ≤ i)
  | _ => false
def flat (v : V) : Prop := ∀ a, v ≠ .ref a
def spIs (K : PySem.W.Frag) : Sp := fun vs H Q _ => ∃ v, vs = [v] ∧ Odd K H v ∧ Q (.bl (isI v)) H
def spKept (K : PySem.W.Frag) : Sp := fun vs H Q _ => ∃ v, vs = [v] ∧ Odd K H v ∧ flat v ∧ Q v H
/-- an error's __init__, its fields flat -/
def spErr (K : PySem.W.Frag) (C : Addr) (fs : List Str) : Sp := fun vs H Q _ => ∃ (a : Addr) (us : List V), vs = .ref a :: us ∧ us.length = fs.length ∧ H a = some (exo a C none) ∧ (∀ u ∈ us, Odd K H u ∧ flat u) ∧
  ∀ (dx : Addr) (G : Hp), H dx = none → dx ≠ a → G a = some (exo a C (some dx)) → G dx = some (exd dx ((fs.zip us).reverse)) → (∀ b o, b ≠ a → H b = some o → G b = some o) → Q .non G
theorem Odd.upd {K : PySem.W.Frag} {H : Hp} {v : V} (h : Odd K H v) (f : flat v) {G : Hp} : Odd K G v := by
  cases h with
  | non => exact .non
  | bl b => exact .bl b
  | int i => exact .int i
  | str x => exact .str x
  | lst h => exact absurd rfl (f _)
  | tup h => exact absurd rfl (f _)
  | dct h => exact absurd rfl (f _)
  | ins h I => exact absurd rfl (f _)
/-- Base.__init__(self, text) -/
theorem base_step {K : PySem.W.Frag} {C a : Addr} {H : Hp} {σ : L2.St} {D : Ends} {tx : Str} (T : OexC K C) (h0 : σ[0]? = some (some (.ref a))) (ha : H a = some (exo a C none)) (q : D.nx σ H) : tDrop (tVeI K (tCons (tVar 0) (tCons (tC (.str tx)) tNil))) D σ H :=
  ⟨_, h0, a, C, _, rfl, (by show 1 ≤ 1000; decide), T, ha, q⟩
/-- C(..), raised -/
theorem err_read {K : PySem.W.Frag} {C : Addr} {fs : List Str} {us : List V} {H : Hp} {Q : XK} (hl : us.length = fs.length) (hz : us.length ≤ 1000) (fu : ∀ u ∈ us, flat u) (ou : ∀ u ∈ us, Odd K H u) (k : ∀ d G, Same H G → G d = some (.xd ((fs.zip us).reverse)) → Q (.ref C) (some d) G) :
    us.length ≤ 1000 ∧ ∀ a, H a = none → spErr K C fs (.ref a :: (us ++ [])) (upd H a (exo a C none)) (fun v H2 => v = .non ∧ ∃ (d : Addr) (gs : List (Str × V)), H2 a = some (exo a C (some d)) ∧ H2 d = some (exd d gs) ∧ H d = none ∧ Q (.ref C) (some d) (upd (L2.del H2 a) d (.xd gs))) (fun _ _ _ => False) := by
  refine ⟨hz, fun a na => ⟨a, us, by rw [List.append_nil], hl, upd_same, fun u hu => ⟨(ou u hu).upd (fu u hu), fu u hu⟩, fun dx G nd ne e1 e2 bt => ⟨rfl, dx, _, e1, e2, ?_, k dx _ (fun b o e => ?_) upd_same⟩⟩⟩
  · rw [upd_ne ne] at nd; exact nd
  · have n1 : b ≠ a := ne_of_none e na
    have n2 : b ≠ dx := ne_of_none e (by rw [upd_ne ne] at nd; exact nd)
    rw [upd_ne n2, L2.del_ne n1]
    exact bt b o n1 (by rw [upd_ne n1]; exact e)
theorem fl_int (i : Int) : flat (.int i) := fun _ z => nomatch z
theorem fl_str (x : Str) : flat (.str x) := fun _ z => nomatch z
def spMany (C : Addr) : Sp := fun vs H Q E => ∃ i : Int, vs = [.int i] ∧ (2 ≤ i ∧ i ≤ 26 → Q .non H) ∧ (¬ (2 ≤ i ∧ i ≤ 26) → ∀ d G, Same H G → G d = some (.xd [("most", .int 26), ("many", .int i), ("what", .str "signs")]) → E (.ref C) (some d) G)
/-- the first element that is no count has the index i -/
def BadAt (xs : List V) (i : Nat) : Prop := (∃ v, xs[i]? = some v ∧ isC v = false) ∧ ∀ j v, j < i → xs[j]? = some v → isC v = true
def spCheck (K : PySem.W.Frag) (C1 C2 : Addr) : Sp := fun vs H Q E => ∃ (a : Addr) (xs : List V), vs = [.ref a] ∧ SqE K H a xs ∧ (∀ x ∈ xs, Odd K H x) ∧
  (2 ≤ xs.length ∧ xs.length ≤ 26 → (∀ x ∈ xs, isC x = true) → ∀ G, Same H G → Q .non G) ∧
  (¬ (2 ≤ xs.length ∧ xs.length ≤ 26) → ∀ d G, Same H G → G d = some (.xd [("most", .int 26), ("many", .int ((xs.length : Nat) : Int)), ("what", .str "signs")]) → E (.ref C1) (some d) G) ∧
  (2 ≤ xs.length ∧ xs.length ≤ 26 → ∀ i : Nat, BadAt xs i → ∀ d G, Same H G → G d = some (.xd [("index", .int (i : Int))]) → E (.ref C2) (some d) G)
section
variable {P : Program} {w : World} {K : PySem.W.Frag} {mg : Str → Option Value} {base : Heap} {A : Ad}
theorem sc_isint : FnScope ["value"] ["value"] (defScope s_isint) := ⟨rfl, rfl, rfl, by decide +kernel, rfl, by decide +kernel, by decide +kernel⟩
theorem ok_isint (T : Txt K mg A) : FnOk P w K mg base CX0 1 A.a_isint A.d_isint ["value"] (spIs K) := by
  refine T.F_isint.ok sc_isint (fun vs H Q E h => ?_) (fun cdv Ar outer s H vs Q E hr h => ?_)
  · obtain ⟨i, rfl, _⟩ := h; rfl
  · obtain ⟨v, rfl, hv, kq⟩ := h
    refine ⟨_, (pss_one (ps_ret (pe_and (pe_callB call_isi (by rfl) T.z_isinstance (by decide +kernel) (pa_cons (pv 0) (pa_cons (pe_bltn (v := .ty "int") (by rfl) T.z_int (by decide +kernel) rfl) pa_nil))) (pe_one (pe_not (pe_callB call_isi (by rfl) T.z_isinstance (by decide +kernel) (pa_cons (pv 0) (pa_cons (pe_bltn (v := .ty "bool") (by rfl) T.z_bool (by decide +kernel) rfl) pa_nil)))))))), ?_⟩
    cases hv with
    | int i =>
      refine ⟨_, rfl, _, .ty "int", .type "int", .type "int", true, rfl, .ty "int", .base (.int i), kit_ty (by decide +kernel), true, rfl, iteT ?_⟩
      exact ⟨_, rfl, _, .ty "bool", .type "int", .type "bool", false, rfl, .ty "bool", .base (.int i), kit_ty (by decide +kernel), _, rfl, kq⟩
    | bl b =>
      refine ⟨_, rfl, _, .ty "int", .type "bool", .type "int", true, rfl, .ty "int", .base (.bl b), kit_ty (by decide +kernel), true, rfl, iteT ?_⟩
      exact ⟨_, rfl, _, .ty "bool", .type "bool", .type "bool", true, rfl, .ty "bool", .base (.bl b), kit_ty (by decide +kernel), _, rfl, kq⟩
    | non => exact ⟨_, rfl, _, .ty "int", .type "NoneType", .type "int", false, rfl, .ty "int", .base .non, kit_ty (by decide +kernel), false, rfl, iteF kq⟩
    | str x => exact ⟨_, rfl, _, .ty "int", .type "str", .type "int", false, rfl, .ty "int", .base (.str x), kit_ty (by decide +kernel), false, rfl, iteF kq⟩
    | lst h => exact ⟨_, rfl, _, .ty "int", .type "list", .type "int", false, rfl, .ty "int", .base (.lst h), kit_ty (by decide +kernel), false, rfl, iteF kq⟩
    | tup h => exact ⟨_, rfl, _, .ty "int", .type "tuple", .type "int", false, rfl, .ty "int", .base (.tup h), kit_ty (by decide +kernel), false, rfl, iteF kq⟩
    | dct h => exact ⟨_, rfl, _, .ty "int", .type "dict", .type "int", false, rfl, .ty "int", .base (.dK h), kit_ty (by decide +kernel), false, rfl, iteF kq⟩
    | ins h I => exact ⟨_, rfl, _, .ty "int", .ref _, .type "int", false, rfl, .ty "int", .base (.ins h I.cl I.ha I.hn I.ht I.hm), I.ki, false, rfl, iteF kq⟩
theorem sc_kept : FnScope ["value", "part", "key"] ["value"] (defScope s_kept) := ⟨rfl, rfl, rfl, by decide +kernel, rfl, by decide +kernel, by decide +kernel⟩
theorem ok_kept (T : Txt K mg A) : FnOk P w K mg base CX0 1 A.a_kept A.d_kept ["value"] (spKept K) := by
  refine T.F_kept.ok sc_kept (fun vs H Q E h => ?_) (fun cdv Ar outer s H vs Q E hr h => ?_)
  · obtain ⟨i, rfl, _⟩ := h; rfl
  · obtain ⟨v, rfl, hv, fv, kq⟩ := h
    refine ⟨_, (pss_cons (ps_if (pt_val (pe_callB call_isi (by rfl) T.z_isinstance (by decide +kernel) (pa_cons (pv 0) (pa_cons (pe_bltn (v := .ty "list") (by rfl) T.z_list (by decide +kernel) rfl) pa_nil)))) (pss_one ps_never)
        pss_nil)
      (pss_cons (ps_if (pt_val (pe_callB call_isi (by rfl) T.z_isinstance (by decide +kernel) (pa_cons (pv 0) (pa_cons (pe_bltn (v := .ty "tuple") (by rfl) T.z_tuple (by decide +kernel) rfl) pa_nil)))) (pss_one ps_never)
        pss_nil)
      (pss_cons (ps_if (pt_val (pe_callB call_isi (by rfl) T.z_isinstance (by decide +kernel) (pa_cons (pv 0) (pa_cons (pe_bltn (v := .ty "dict") (by rfl) T.z_dict (by decide +kernel) rfl) pa_nil)))) (pss_one ps_never)
        pss_nil)
      (pss_one (ps_ret (pv 0)))))), ?_⟩
    cases hv with
    | int i =>
      refine ⟨_, rfl, _, .ty "list", .type "int", .type "list", false, rfl, .ty "list", .base (.int i), kit_ty (by decide +kernel), false, rfl, iteF ?_⟩
      refine ⟨_, rfl, _, .ty "tuple", .type "int", .type "tuple", false, rfl, .ty "tuple", .base (.int i), kit_ty (by decide +kernel), false, rfl, iteF ?_⟩
      refine ⟨_, rfl, _, .ty "dict", .type "int", .type "dict", false, rfl, .ty "dict", .base (.int i), kit_ty (by decide +kernel), false, rfl, iteF ?_⟩
      exact ⟨_, rfl, kq⟩
    | bl b =>
      refine ⟨_, rfl, _, .ty "list", .type "bool", .type "list", false, rfl, .ty "list", .base (.bl b), kit_ty (by decide +kernel), false, rfl, iteF ?_⟩
      refine ⟨_, rfl, _, .ty "tuple", .type "bool", .type "tuple", false, rfl, .ty "tuple", .base (.bl b), kit_ty (by decide +kernel), false, rfl, iteF ?_⟩
      refine ⟨_, rfl, _, .ty "dict", .type "bool", .type "dict", false, rfl, .ty "dict", .base (.bl b), kit_ty (by decide +kernel), false, rfl, iteF ?_⟩
      exact ⟨_, rfl, kq⟩
    | non =>
      refine ⟨_, rfl, _, .ty "list", .type "NoneType", .type "list", false, rfl, .ty "list", .base (.non), kit_ty (by decide +kernel), false, rfl, iteF ?_⟩
      refine ⟨_, rfl, _, .ty "tuple", .type "NoneType", .type "tuple", false, rfl, .ty "tuple", .base (.non), kit_ty (by decide +kernel), false, rfl, iteF ?_⟩
      refine ⟨_, rfl, _, .ty "dict", .type "NoneType", .type "dict", false, rfl, .ty "dict", .base (.non), kit_ty (by decide +kernel), false, rfl, iteF ?_⟩
      exact ⟨_, rfl, kq⟩
    | str x =>
      refine ⟨_, rfl, _, .ty "list", .type "str", .type "list", false, rfl, .ty "list", .base (.str x), kit_ty (by decide +kernel), false, rfl, iteF ?_⟩
      refine ⟨_, rfl, _, .ty "tuple", .type "str", .type "tuple", false, rfl, .ty "tuple", .base (.str x), kit_ty (by decide +kernel), false, rfl, iteF ?_⟩
      refine ⟨_, rfl, _, .ty "dict", .type "str", .type "dict", false, rfl, .ty "dict", .base (.str x), kit_ty (by decide +kernel), false, rfl, iteF ?_⟩
      exact ⟨_, rfl, kq⟩
    | lst h => exact absurd rfl (fv _)
    | tup h => exact absurd rfl (fv _)
    | dct h => exact absurd rfl (fv _)
    | ins h I => exact absurd rfl (fv _)
theorem sc_TooMany : FnScope ["self", "what", "many", "most"] ["self", "what", "many", "most"] (defScope s_TooMany) := ⟨rfl, rfl, rfl, by decide +kernel, rfl, by decide +kernel, by decide +kernel⟩
theorem ok_TooMany (T : Txt K mg A) : FnOk P w K mg base CX0 2 A.i_TooMany A.d_TooMany ["self", "what", "many", "most"] (spErr K A.c_TooMany ["what", "many", "most"]) := by
  have G_kept := ok_kept (P := P) (w := w) (base := base) T
  refine T.E_TooMany.F.ok sc_TooMany (fun vs H Q E h => ?_) (fun cdv Ar outer s H vs Q E hr h => ?_)
  · obtain ⟨a, us, rfl, hl, _⟩ := h; exact congrArg Nat.succ hl
  · obtain ⟨a, us, rfl, hl, ha, hA, k⟩ := h
    match us, hl, hA with
    | [u0, u1, u2], _, hA =>
      refine ⟨_, (pss_cons (ps_expr (pe_binit T.B (by rfl) T.gj (pa_cons (pv 0) (pa_cons pe_str pa_nil))))
        (pss_cons (ps_ost (pv 0) (pe_call G_kept (hr.mono (by decide)) (by rfl) T.g_kept T.F_kept.kp T.b_kept .nil pass0 (pa_cons (pv 1) pa_nil)))
        (pss_cons (ps_ost (pv 0) (pe_call G_kept (hr.mono (by decide)) (by rfl) T.g_kept T.F_kept.kp T.b_kept .nil pass0 (pa_cons (pv 2) pa_nil)))
        (pss_one (ps_ost (pv 0) (pe_call G_kept (hr.mono (by decide)) (by rfl) T.g_kept T.F_kept.kp T.b_kept .nil pass0 (pa_cons (pv 3) pa_nil))))))), ?_⟩
      refine base_step T.E_TooMany.E.T rfl ha ?_
      obtain ⟨o0, f0⟩ := hA u0 (by simp)
      obtain ⟨o1, f1⟩ := hA u1 (by simp)
      obtain ⟨o2, f2⟩ := hA u2 (by simp)
      refine ⟨_, rfl, u0, rfl, o0.upd f0, f0, _, rfl, a, A.c_TooMany, rfl, T.E_TooMany.E.T, T.E_TooMany.no "what" (by decide +kernel), .inl ⟨ha, fun dx nx ne => ?_⟩⟩
      have e1 : (upd (upd H dx (exd dx [("what", u0)])) a (exo a A.c_TooMany (some dx))) a = some (exo a A.c_TooMany (some dx)) := upd_same
      have e2 : (upd (upd H dx (exd dx [("what", u0)])) a (exo a A.c_TooMany (some dx))) dx = some (exd dx [("what", u0)]) := by rw [upd_ne ne]; exact upd_same
      have bt : ∀ b o, b ≠ a → H b = some o → (upd (upd H dx (exd dx [("what", u0)])) a (exo a A.c_TooMany (some dx))) b = some o := fun b o nb e => by rw [upd_ne nb, upd_ne (ne_of_none e nx)]; exact e
      generalize (upd (upd H dx (exd dx [("what", u0)])) a (exo a A.c_TooMany (some dx))) = H1 at *
      refine ⟨_, rfl, u1, rfl, o1.upd f1, f1, _, rfl, a, A.c_TooMany, rfl, T.E_TooMany.E.T, T.E_TooMany.no "many" (by decide +kernel), .inr ⟨dx, _, e1, e2, (by show 1 ≤ 900; decide), ?_⟩⟩
      have e1 : upd H1 dx (exd dx [("many", u1), ("what", u0)]) a = some (exo a A.c_TooMany (some dx)) := by rw [upd_ne ne.symm]; exact e1
      have e2 : upd H1 dx (exd dx [("many", u1), ("what", u0)]) dx = some (exd dx [("many", u1), ("what", u0)]) := upd_same
      have bt : ∀ b o, b ≠ a → H b = some o → upd H1 dx (exd dx [("many", u1), ("what", u0)]) b = some o := fun b o nb e => by rw [upd_ne (ne_of_none e nx)]; exact bt b o nb e
      generalize upd H1 dx (exd dx [("many", u1), ("what", u0)]) = H2 at *
      refine ⟨_, rfl, u2, rfl, o2.upd f2, f2, _, rfl, a, A.c_TooMany, rfl, T.E_TooMany.E.T, T.E_TooMany.no "most" (by decide +kernel), .inr ⟨dx, _, e1, e2, (by show 2 ≤ 900; decide), ?_⟩⟩
      have e1 : upd H2 dx (exd dx [("most", u2), ("many", u1), ("what", u0)]) a = some (exo a A.c_TooMany (some dx)) := by rw [upd_ne ne.symm]; exact e1
      have e2 : upd H2 dx (exd dx [("most", u2), ("many", u1), ("what", u0)]) dx = some (exd dx [("most", u2), ("many", u1), ("what", u0)]) := upd_same
      have bt : ∀ b o, b ≠ a → H b = some o → upd H2 dx (exd dx [("most", u2), ("many", u1), ("what", u0)]) b = some o := fun b o nb e => by rw [upd_ne (ne_of_none e nx)]; exact bt b o nb e
      generalize upd H2 dx (exd dx [("most", u2), ("many", u1), ("what", u0)]) = H3 at *
      exact k dx _ nx ne e1 e2 bt
theorem sc_BadCount : FnScope ["self", "index"] ["self", "index"] (defScope s_BadCount) := ⟨rfl, rfl, rfl, by decide +kernel, rfl, by decide +kernel, by decide +kernel⟩
theorem ok_BadCount (T : Txt K mg A) : FnOk P w K mg base CX0 2 A.i_BadCount A.d_BadCount ["self", "index"] (spErr K A.c_BadCount ["index"]) := by
  have G_kept := ok_kept (P := P) (w := w) (base := base) T
  refine T.E_BadCount.F.ok sc_BadCount (fun vs H Q E h => ?_) (fun cdv Ar outer s H vs Q E hr h => ?_)
  · obtain ⟨a, us, rfl, hl, _⟩ := h; exact congrArg Nat.succ hl
  · obtain ⟨a, us, rfl, hl, ha, hA, k⟩ := h
    match us, hl, hA with
    | [u0], _, hA =>
      refine ⟨_, (pss_cons (ps_expr (pe_binit T.B (by rfl) T.gj (pa_cons (pv 0) (pa_cons pe_str pa_nil))))
        (pss_one (ps_ost (pv 0) (pe_call G_kept (hr.mono (by decide)) (by rfl) T.g_kept T.F_kept.kp T.b_kept .nil pass0 (pa_cons (pv 1) pa_nil))))), ?_⟩
      refine base_step T.E_BadCount.E.T rfl ha ?_
      obtain ⟨o0, f0⟩ := hA u0 (by simp)
      refine ⟨_, rfl, u0, rfl, o0.upd f0, f0, _, rfl, a, A.c_BadCount, rfl, T.E_BadCount.E.T, T.E_BadCount.no "index" (by decide +kernel), .inl ⟨ha, fun dx nx ne => ?_⟩⟩
      have e1 : (upd (upd H dx (exd dx [("index", u0)])) a (exo a A.c_BadCount (some dx))) a = some (exo a A.c_BadCount (some dx)) := upd_same
      have e2 : (upd (upd H dx (exd dx [("index", u0)])) a (exo a A.c_BadCount (some dx))) dx = some (exd dx [("index", u0)]) := by rw [upd_ne ne]; exact upd_same
      have bt : ∀ b o, b ≠ a → H b = some o → (upd (upd H dx (exd dx [("index", u0)])) a (exo a A.c_BadCount (some dx))) b = some o := fun b o nb e => by rw [upd_ne nb, upd_ne (ne_of_none e nx)]; exact e
      generalize (upd (upd H dx (exd dx [("index", u0)])) a (exo a A.c_BadCount (some dx))) = H1 at *
      exact k dx _ nx ne e1 e2 bt
theorem sc_BadLength : FnScope ["self", "index"] ["self", "index"] (defScope s_BadLength) := ⟨rfl, rfl, rfl, by decide +kernel, rfl, by decide +kernel, by decide +kernel⟩
theorem ok_BadLength (T : Txt K mg A) : FnOk P w K mg base CX0 2 A.i_BadLength A.d_BadLength ["self", "index"] (spErr K A.c_BadLength ["index"]) := by
  have G_kept := ok_kept (P := P) (w := w) (base := base) T
  refine T.E_BadLength.F.ok sc_BadLength (fun vs H Q E h => ?_) (fun cdv Ar outer s H vs Q E hr h => ?_)
  · obtain ⟨a, us, rfl, hl, _⟩ := h; exact congrArg Nat.succ hl
  · obtain ⟨a, us, rfl, hl, ha, hA, k⟩ := h
    match us, hl, hA with
    | [u0], _, hA =>
      refine ⟨_, (pss_cons (ps_expr (pe_binit T.B (by rfl) T.gj (pa_cons (pv 0) (pa_cons pe_str pa_nil))))
        (pss_one (ps_ost (pv 0) (pe_call G_kept (hr.mono (by decide)) (by rfl) T.g_kept T.F_kept.kp T.b_kept .nil pass0 (pa_cons (pv 1) pa_nil))))), ?_⟩
      refine base_step T.E_BadLength.E.T rfl ha ?_
      obtain ⟨o0, f0⟩ := hA u0 (by simp)
      refine ⟨_, rfl, u0, rfl, o0.upd f0, f0, _, rfl, a, A.c_BadLength, rfl, T.E_BadLength.E.T, T.E_BadLength.no "index" (by decide +kernel), .inl ⟨ha, fun dx nx ne => ?_⟩⟩
      have e1 : (upd (upd H dx (exd dx [("index", u0)])) a (exo a A.c_BadLength (some dx))) a = some (exo a A.c_BadLength (some dx)) := upd_same
      have e2 : (upd (upd H dx (exd dx [("index", u0)])) a (exo a A.c_BadLength (some dx))) dx = some (exd dx [("index", u0)]) := by rw [upd_ne ne]; exact upd_same
      have bt : ∀ b o, b ≠ a → H b = some o → (upd (upd H dx (exd dx [("index", u0)])) a (exo a A.c_BadLength (some dx))) b = some o := fun b o nb e => by rw [upd_ne nb, upd_ne (ne_of_none e nx)]; exact e
      generalize (upd (upd H dx (exd dx [("index", u0)])) a (exo a A.c_BadLength (some dx))) = H1 at *
      exact k dx _ nx ne e1 e2 bt
theorem sc_BadWord : FnScope ["self", "index"] ["self", "index"] (defScope s_BadWord) := ⟨rfl, rfl, rfl, by decide +kernel, rfl, by decide +kernel, by decide +kernel⟩
theorem ok_BadWord (T : Txt K mg A) : FnOk P w K mg base CX0 2 A.i_BadWord A.d_BadWord ["self", "index"] (spErr K A.c_BadWord ["index"]) := by
  have G_kept := ok_kept (P := P) (w := w) (base := base) T
  refine T.E_BadWord.F.ok sc_BadWord (fun vs H Q E h => ?_) (fun cdv Ar outer s H vs Q E hr h => ?_)
  · obtain ⟨a, us, rfl, hl, _⟩ := h; exact congrArg Nat.succ hl
  · obtain ⟨a, us, rfl, hl, ha, hA, k⟩ := h
    match us, hl, hA with
    | [u0], _, hA =>
      refine ⟨_, (pss_cons (ps_expr (pe_binit T.B (by rfl) T.gj (pa_cons (pv 0) (pa_cons pe_str pa_nil))))
        (pss_one (ps_ost (pv 0) (pe_call G_kept (hr.mono (by decide)) (by rfl) T.g_kept T.F_kept.kp T.b_kept .nil pass0 (pa_cons (pv 1) pa_nil))))), ?_⟩
      refine base_step T.E_BadWord.E.T rfl ha ?_
      obtain ⟨o0, f0⟩ := hA u0 (by simp)
      refine ⟨_, rfl, u0, rfl, o0.upd f0, f0, _, rfl, a, A.c_BadWord, rfl, T.E_BadWord.E.T, T.E_BadWord.no "index" (by decide +kernel), .inl ⟨ha, fun dx nx ne => ?_⟩⟩
      have e1 : (upd (upd H dx (exd dx [("index", u0)])) a (exo a A.c_BadWord (some dx))) a = some (exo a A.c_BadWord (some dx)) := upd_same
      have e2 : (upd (upd H dx (exd dx [("index", u0)])) a (exo a A.c_BadWord (some dx))) dx = some (exd dx [("index", u0)]) := by rw [upd_ne ne]; exact upd_same
      have bt : ∀ b o, b ≠ a → H b = some o → (upd (upd H dx (exd dx [("index", u0)])) a (exo a A.c_BadWord (some dx))) b = some o := fun b o nb e => by rw [upd_ne nb, upd_ne (ne_of_none e nx)]; exact e
      generalize (upd (upd H dx (exd dx [("index", u0)])) a (exo a A.c_BadWord (some dx))) = H1 at *
      exact k dx _ nx ne e1 e2 bt
theorem sc_Begins : FnScope ["self", "index", "other"] ["self", "index", "other"] (defScope s_Begins) := ⟨rfl, rfl, rfl, by decide +kernel, rfl, by decide +kernel, by decide +kernel⟩
theorem ok_Begins (T : Txt K mg A) : FnOk P w K mg base CX0 2 A.i_Begins A.d_Begins ["self", "index", "other"] (spErr K A.c_Begins ["index", "other"]) := by
  have G_kept := ok_kept (P := P) (w := w) (base := base) T
  refine T.E_Begins.F.ok sc_Begins (fun vs H Q E h => ?_) (fun cdv Ar outer s H vs Q E hr h => ?_)
  · obtain ⟨a, us, rfl, hl, _⟩ := h; exact congrArg Nat.succ hl
  · obtain ⟨a, us, rfl, hl, ha, hA, k⟩ := h
    match us, hl, hA with
    | [u0, u1], _, hA =>
      refine ⟨_, (pss_cons (ps_expr (pe_binit T.B (by rfl) T.gj (pa_cons (pv 0) (pa_cons pe_str pa_nil))))
        (pss_cons (ps_ost (pv 0) (pe_call G_kept (hr.mono (by decide)) (by rfl) T.g_kept T.F_kept.kp T.b_kept .nil pass0 (pa_cons (pv 1) pa_nil)))
        (pss_one (ps_ost (pv 0) (pe_call G_kept (hr.mono (by decide)) (by rfl) T.g_kept T.F_kept.kp T.b_kept .nil pass0 (pa_cons (pv 2) pa_nil)))))), ?_⟩
      refine base_step T.E_Begins.E.T rfl ha ?_
      obtain ⟨o0, f0⟩ := hA u0 (by simp)
      obtain ⟨o1, f1⟩ := hA u1 (by simp)
      refine ⟨_, rfl, u0, rfl, o0.upd f0, f0, _, rfl, a, A.c_Begins, rfl, T.E_Begins.E.T, T.E_Begins.no "index" (by decide +kernel), .inl ⟨ha, fun dx nx ne => ?_⟩⟩
      have e1 : (upd (upd H dx (exd dx [("index", u0)])) a (exo a A.c_Begins (some dx))) a = some (exo a A.c_Begins (some dx)) := upd_same
      have e2 : (upd (upd H dx (exd dx [("index", u0)])) a (exo a A.c_Begins (some dx))) dx = some (exd dx [("index", u0)]) := by rw [upd_ne ne]; exact upd_same
      have bt : ∀ b o, b ≠ a → H b = some o → (upd (upd H dx (exd dx [("index", u0)])) a (exo a A.c_Begins (some dx))) b = some o := fun b o nb e => by rw [upd_ne nb, upd_ne (ne_of_none e nx)]; exact e
      generalize (upd (upd H dx (exd dx [("index", u0)])) a (exo a A.c_Begins (some dx))) = H1 at *
      refine ⟨_, rfl, u1, rfl, o1.upd f1, f1, _, rfl, a, A.c_Begins, rfl, T.E_Begins.E.T, T.E_Begins.no "other" (by decide +kernel), .inr ⟨dx, _, e1, e2, (by show 1 ≤ 900; decide), ?_⟩⟩
      have e1 : upd H1 dx (exd dx [("other", u1), ("index", u0)]) a = some (exo a A.c_Begins (some dx)) := by rw [upd_ne ne.symm]; exact e1
      have e2 : upd H1 dx (exd dx [("other", u1), ("index", u0)]) dx = some (exd dx [("other", u1), ("index", u0)]) := upd_same
      have bt : ∀ b o, b ≠ a → H b = some o → upd H1 dx (exd dx [("other", u1), ("index", u0)]) b = some o := fun b o nb e => by rw [upd_ne (ne_of_none e nx)]; exact bt b o nb e
      generalize upd H1 dx (exd dx [("other", u1), ("index", u0)]) = H2 at *
      exact k dx _ nx ne e1 e2 bt
theorem sc_checkmany : FnScope ["many"] ["many"] (defScope s_checkmany) := ⟨rfl, rfl, rfl, by decide +kernel, rfl, by decide +kernel, by decide +kernel⟩
theorem ok_checkmany (T : Txt K mg A) : FnOk P w K mg base (L2.CX P w) 4 A.a_checkmany A.d_checkmany ["many"] (spMany A.c_TooMany) := by
  have G_TooMany := ok_TooMany (P := P) (w := w) (base := base) T
  refine T.F_checkmany.okX sc_checkmany (fun vs H Q E h => ?_) (fun cdv Ar outer s H vs Q E hr h => ?_)
  · obtain ⟨i, rfl, _⟩ := h; rfl
  · obtain ⟨i, rfl, kq, ke⟩ := h
    refine ⟨_, (pss_one (ps_if (PW.pt (pw_or (pt_cmpR op_lt (pv 0) (pe_glob (v := .int 2) rfl (Classical.choose_spec T.k_FEWEST_SIGNS) ⟨_, rfl⟩) (nomark _)) (pw_or1 (pt_cmpR op_gt (pv 0) (pe_glob (v := .int 26) rfl (Classical.choose_spec T.k_MOST_SIGNS) ⟨_, rfl⟩) (nomark _))))) (pss_one (ps_raise rfl (takes_of rfl rfl rfl rfl) (pmk_oex T.E_TooMany.E.T T.E_TooMany.E.iC T.E_TooMany.E.tI G_TooMany (hr.mono (by decide)) T.E_TooMany.bb .nil pass0 (by rfl) T.E_TooMany.g (pa_cons pe_str (pa_cons (pv 0) (pa_cons (pe_glob (v := .int 26) rfl (Classical.choose_spec T.k_MOST_SIGNS) ⟨_, rfl⟩) pa_nil))))))
        pss_nil)), ?_⟩
    have rd : ¬ (2 ≤ i ∧ i ≤ 26) → _ := fun n => err_read (K := K) (Q := E) (C := A.c_TooMany) (fs := ["what", "many", "most"]) (us := [.str "signs", .int i, .int 26]) (H := H) rfl (by show 3 ≤ 1000; decide) (fun u hu => by simp only [List.mem_cons, List.not_mem_nil, or_false] at hu; rcases hu with rfl | rfl | rfl <;> intro _ z <;> cases z)
      (fun u hu => by simp only [List.mem_cons, List.not_mem_nil, or_false] at hu; rcases hu with rfl | rfl | rfl <;> constructor) (fun d G s e => ke n d G s e)
    refine ⟨_, rfl, _, _, rfl, rfl, _, rfl, ?_⟩
    by_cases c1 : i < 2
    · rw [decide_eq_true c1]
      exact iteT ⟨_, rfl, rd (by omega)⟩
    · rw [decide_eq_false c1]
      refine iteF ⟨_, rfl, _, _, rfl, rfl, _, rfl, ?_⟩
      by_cases c2 : 26 < i
      · rw [decide_eq_true c2]
        exact iteT ⟨_, rfl, rd (by omega)⟩
      · rw [decide_eq_false c2]
        exact iteF (kq ⟨by omega, by omega⟩)
theorem sc_checkcounts : FnScope ["counts", "index", "count"] ["counts"] (defScope s_checkcounts) := ⟨rfl, rfl, rfl, by decide +kernel, rfl, by decide +kernel, by decide +kernel⟩
theorem ok_checkcounts (T : Txt K mg A) : FnOk P w K mg base (L2.CX P w) 5 A.a_checkcounts A.d_checkcounts ["counts"] (spCheck K A.c_TooMany A.c_BadCount) := by
  have G_checkmany := ok_checkmany (P := P) (w := w) (base := base) T
  have G_BadCount := ok_BadCount (P := P) (w := w) (base := base) T
  have G_isint := ok_isint (P := P) (w := w) (base := base) T
  refine T.F_checkcounts.okX sc_checkcounts (fun vs H Q E h => ?_) (fun cdv Ar outer s H vs Q E hr h => ?_)
  · obtain ⟨a, xs, rfl, _⟩ := h; rfl
  · obtain ⟨a, xs, rfl, hs, ho, kq, k1, k2⟩ := h
    refine ⟨_, (pss_cons (ps_expr (pe_call G_checkmany (hr.mono (by decide)) (by rfl) T.g_checkmany T.F_checkmany.kp T.b_checkmany .nil (passes_call (takes_of rfl rfl rfl rfl) (fun _ _ _ _ h => h)) (pa_cons (pe_callB call_len_seq (by rfl) T.z_len PySem.boot_len (pa_cons (pv 0) pa_nil)) pa_nil)))
      (pss_one (ps_for (passes_of rfl) rfl (pi_or (pi_enum (by rfl) T.z_enumerate (pa_cons (pv 0) pa_nil)) (pi_enumF (by rfl) T.z_enumerate (pa_cons (pv 0) pa_nil))) (pg_tup (by rfl) (pgs_cons (pg_name (i := 1) sc_checkcounts.nd rfl (Or.inl rfl)) (pgs_cons (pg_name (i := 2) sc_checkcounts.nd rfl (Or.inl rfl)) pgs_nil)))
         (pss_one (ps_if (PW.pt (pw_or (pt_not (pt_val (pe_call G_isint (hr.mono (by decide)) (by rfl) T.g_isint T.F_isint.kp T.b_isint .nil pass0 (pa_cons (pv 2) pa_nil)))) (pw_or1 (pt_cmpR op_lt (pv 2) pe_int (nomark _))))) (pss_one (ps_raise rfl (takes_of rfl rfl rfl rfl) (pmk_oex T.E_BadCount.E.T T.E_BadCount.E.iC T.E_BadCount.E.tI G_BadCount (hr.mono (by decide)) T.E_BadCount.bb .nil pass0 (by rfl) T.E_BadCount.g (pa_cons (pv 1) pa_nil))))
           pss_nil))))), ?_⟩
    refine ⟨_, rfl, a, xs, rfl, hs, _, rfl, fun h26 => ?_, fun n d G s e => k1 (fun z => n ⟨by omega, by omega⟩) d G s e⟩
    have h26 : 2 ≤ xs.length ∧ xs.length ≤ 26 := ⟨by omega, by omega⟩
    refine enum_read (a := a) (xs := xs) rfl (enumE hs (fun i ρ G => (∃ y z, ρ = [some (.ref a), y, z]) ∧ Same H G ∧ ∀ j v, j < i → xs[j]? = some v → isC v = true) (fun _ _ _ h => h.2.1) ⟨⟨_, _, rfl⟩, Same.refl H, fun j v hj => absurd hj (Nat.not_lt_zero j)⟩ ?_ ?_)
    · rintro i x ρ G1 t hx ⟨⟨y, z, rfl⟩, sm, hb⟩ nt
      have sm1 : Same H (upd G1 t (.tup [.int (i : Int), x])) := sm.trans (same_new nt)
      have ox := (ho x (List.mem_of_getElem? hx)).same sm1
      refine ⟨t, _, rfl, SqT.of upd_same, rfl, _, _, rfl, _, _, rfl, rfl, ?_⟩
      generalize upd G1 t (.tup [.int (i : Int), x]) = G2 at sm1 ox ⊢
      have rd : isC x = false → _ := fun n => err_read (K := K) (Q := E) (C := A.c_BadCount) (fs := ["index"]) (us := [.int (i : Int)]) (H := G2) rfl (by show 1 ≤ 1000; decide) (fun u hu => by simp only [List.mem_cons, List.not_mem_nil, or_false] at hu; subst hu; exact fl_int _)
        (fun u hu => by simp only [List.mem_cons, List.not_mem_nil, or_false] at hu; subst hu; exact .int _) (fun d G s e => k2 h26 i ⟨⟨x, hx, n⟩, hb⟩ d G (sm1.trans s) e)
      refine ⟨_, rfl, x, rfl, ox, _, rfl, ?_⟩
      cases hI : isI x with
      | false =>
        have nc : isC x = false := by cases x <;> first | rfl | cases hI
        exact iteT ⟨_, rfl, rd nc⟩
      | true =>
        obtain ⟨n, rfl⟩ : ∃ n, x = .int n := by cases x <;> first | exact ⟨_, rfl⟩ | cases hI
        refine iteF ⟨_, rfl, _, _, rfl, rfl, _, rfl, ?_⟩
        by_cases c : n < 0
        · rw [decide_eq_true c]
          exact iteT ⟨_, rfl, rd (decide_eq_false (by omega))⟩
        · rw [decide_eq_false c]
          refine iteF ⟨⟨_, _, rfl⟩, sm1, fun j v hj hv => ?_⟩
          rcases Nat.lt_succ_iff_lt_or_eq.mp hj with hj | rfl
          · exact hb j v hj hv
          · rw [hx] at hv
            cases hv
            exact decide_eq_true (by omega)
    · rintro ρ G1 ⟨⟨y, z, rfl⟩, sm, hb⟩
      refine kq h26 (fun x hx => ?_) G1 sm
      obtain ⟨j, hj, e⟩ := List.getElem_of_mem hx
      exact hb j x hj (by rw [List.getElem?_eq_getElem hj, e])
end
end Z

set_option Elab.async false
set_option linter.all false
set_option maxRecDepth 100000
set_option maxHeartbeats 8000000
/-! the draws -/
namespace Z
open PySem L2 XV
theorem log_lt {n k : Nat} (h : n < 2 ^ k) (hk : 0 < k) : n.log2 < k := by
  by_cases e : n = 0
  · subst e; simpa using hk
  · exact (Nat.log2_lt e).mpr h
def But (d : Addr) (H H' : Hp) : Prop := ∀ x o, x ≠ d → H x = some o → H' x = some o
theorem But.upd {d : Addr} {H H' : Hp} {o : HO} (a : But d H H') : But d H (upd H' d o) := fun x u n h => by rw [upd_ne n]; exact a x u n h
theorem But.of {d : Addr} {H H' : Hp} (s : Same H H') : But d H H' := fun x o _ h => s x o h
theorem But.trans {d : Addr} {H H1 H2 : Hp} (a : But d H H1) (b : But d H1 H2) : But d H H2 := fun x o n h => b x o n (a x o n h)
theorem But.new {d p : Addr} {H H' : Hp} {o : HO} (a : But d H H') (h : H' p = none) (hd : H' d ≠ none) : But d H (L2.upd H' p o) := fun x u n z => by
  have q := a x u n z
  rw [upd_ne (ne_of_none q h)]
  exact q
/-- the pen's dict -/
def penK (l : Addr) (k m : Int) : List (Key × V) := [(.inr "cells", .ref l), (.inr "next", .int k), (.inr "left", .int m)]
theorem pen_merge (l : Addr) (k m : Int) : mergeK [] (penK l k m) = penK l k m := by kernel_rfl
theorem pen_c (l : Addr) (k m : Int) : valV (penK l k m) (Sum.inr "cells" : Key) = some (.ref l) := by kernel_rfl
theorem pen_o (l : Addr) (k m : Int) : valV (penK l k m) (Sum.inr "next" : Key) = some (.int k) := by kernel_rfl
theorem pen_l (l : Addr) (k m : Int) : valV (penK l k m) (Sum.inr "left" : Key) = some (.int m) := by kernel_rfl
theorem put_o (l : Addr) (k m k' : Int) : putK (penK l k m) (Sum.inr "next" : Key) (.int k') = penK l k' m := by kernel_rfl
theorem put_l (l : Addr) (k m m' : Int) : putK (penK l k m) (Sum.inr "left" : Key) (.int m') = penK l k m' := by kernel_rfl
/-- a pen at d: its cells, k of them opened, what is left -/
def Pen (H : Hp) (d l : Addr) (k : Nat) : Prop := ∃ (ns : List Int) (m : Int), H d = some (.dK (penK l (k : Int) m)) ∧ H l = some (.lst (ns.map V.int)) ∧ 0 ≤ m ∧ ns.length ≤ 63
theorem Pen.some {H : Hp} {d l : Addr} {k : Nat} (h : Pen H d l k) : ∃ x, H d = some (.dK ((Sum.inr "cells", V.ref l) :: x)) := by
  obtain ⟨ns, m, h, _⟩ := h
  exact ⟨_, h⟩
theorem Pen.cells {H : Hp} {d l : Addr} {k : Nat} (h : Pen H d l k) : ∃ xs, H l = Option.some (HO.lst xs) := by
  obtain ⟨ns, m, _, h, _⟩ := h
  exact ⟨_, h⟩
theorem Pen.same {H H' : Hp} {d l : Addr} {k : Nat} (h : Pen H d l k) (s : Same H H') : Pen H' d l k := by
  obtain ⟨ns, m, h1, h2, h3⟩ := h
  exact ⟨ns, m, s _ _ h1, s _ _ h2, h3⟩
theorem Pen.upd {H : Hp} {d l p : Addr} {k : Nat} {o : HO} (h : Pen H d l k) (h1 : d ≠ p) (h2 : l ≠ p) : Pen (upd H p o) d l k := by
  obtain ⟨ns, m, e1, e2, e3⟩ := h
  exact ⟨ns, m, by rw [upd_ne h1]; exact e1, by rw [upd_ne h2]; exact e2, e3⟩
theorem mul_l {i j : Int} (h1 : -(2 ^ 64) < i) (h2 : i < 2 ^ 64) : CMul i j := .inl ⟨h1, h2⟩
theorem mul_m {i j p : Int} (h : 0 < p) (hp : p ≤ 2 ^ 64) : CMul (i % p) j :=
  .inl ⟨Int.lt_of_lt_of_le (by decide) (Int.emod_nonneg _ (by omega)), Int.lt_of_lt_of_le (Int.emod_lt_of_pos _ h) hp⟩
theorem dp_ints {K : PySem.W.Frag} {H : Hp} : ∀ ns : List Int, DpAll K H (ns.map V.int) (ns.map PyData.int)
  | [] => .nil
  | n :: ns => .cons (.int n) (dp_ints ns)
theorem lay_ints : ∀ ns : List Int, PyData.canLayAll0 (ns.map PyData.int) = true ∧ PyData.depthAll (ns.map PyData.int) = 0
  | [] => by simp [PyData.canLayAll0, PyData.depthAll]
  | n :: ns => by
    obtain ⟨h1, h2⟩ := lay_ints ns
    simp [PyData.canLayAll0, PyData.canLay0, PyData.depthAll, PyData.depth, h1, h2]
theorem shaped_ints (ns : List Int) : SeqAt.shaped (.list (ns.map PyData.int)) = true := by
  obtain ⟨h1, h2⟩ := lay_ints ns
  simp [SeqAt.shaped, PyData.canLay0, PyData.depth, h1, h2]
theorem abs_nn (z : Int) : 0 ≤ (if z < 0 then -z else z) := by split <;> omega
/-! ### the promises -/
def spPen (K : PySem.W.Frag) : Sp := fun vs H Q _ => ∃ (a : Addr) (ns : List Int), vs = [.ref a] ∧ SqL K H a (ns.map V.int) ∧ ns.length ≤ 63 ∧ ∀ d l H', Pen H' d l 0 → Same H H' → H d = none → Q (.ref d) H'
def spDraw : Sp := fun vs H Q _ => ∃ (d l : Addr) (b : Int) (k : Nat), vs = [.ref d, .int b] ∧ Pen H d l k ∧ 0 < b ∧ b < 1000000 ∧ k ≤ 1000000 ∧ ∀ v H' k', 0 ≤ v → v < b → k' ≤ k + 1 → Pen H' d l k' → But d H H' → Q (.int v) H'
def spPick : Sp := fun vs H Q _ => ∃ (d l p : Addr) (xs : List V) (k : Nat), vs = [.ref d, .ref p] ∧ Pen H d l k ∧ H p = some (.lst xs) ∧ 0 < xs.length ∧ xs.length < 1000 ∧ k ≤ 1000000 ∧
  ∀ v H' k', v ∈ xs → k' ≤ k + 1 → Pen H' d l k' → But d H H' → Q v H'
section
variable {P : Program} {w : World} {K : PySem.W.Frag} {mg : Str → Option Value} {base : Heap} {A : Ad}
theorem sc_penof : FnScope ["_law_script"] ["_law_script"] (defScope s_penof) := ⟨rfl, rfl, rfl, by decide +kernel, rfl, by decide +kernel, by decide +kernel⟩
theorem ok_pen (T : Txt K mg A) : FnOk P w K mg base CX0 1 A.a_penof A.d_penof ["_law_script"] (spPen K) := by
  refine T.F_penof.ok sc_penof (fun vs H Q E h => ?_) (fun cdv A outer s H vs Q E hr h => ?_)
  · obtain ⟨a, ns, rfl, _⟩ := h; rfl
  · obtain ⟨a, ns, rfl, hs, hl, k⟩ := h
    refine ⟨_, (pss_one (ps_ret (pe_disp (pps_cons pe_str (pe_callTy call_list_of (by rfl) T.z_list (by decide +kernel) (pa_cons (pe_slice sl_list (pv 0) po_none (po_some pe_int)) pa_nil)) (pps_cons pe_str pe_int (pps_cons pe_str pe_int pps_nil))) (by rfl) (by rfl) (fun z => by cases z) (by decide)))), ?_⟩
    intro p np
    have s1 : ∀ o, Same H (upd H p o) := fun o b u e => by rw [upd_ne (ne_of_none e np)]; exact e
    refine ⟨_, rfl, 63, rfl, a, _, rfl, (s1 _).seq hs, fun q nq => ⟨q, _, rfl, .inl (SqL.of upd_same), fun l nl => ?_⟩⟩
    have nqp : p ≠ q := ne_of_none upd_same nq
    have nlp : p ≠ l := by
      refine ne_of_none (H := upd (upd H p (.dK [])) q (.lst _)) (o := .dK []) ?_ nl
      rw [upd_ne nqp]; exact upd_same
    refine ⟨?_, penK l 0 0, rfl, (by show 3 ≤ 15; decide), ?_⟩
    · rw [upd_ne nlp, upd_ne nqp]; exact upd_same
    · rw [pen_merge]
      refine k p l _ ⟨(ns.drop (HT.sIx (ns.map V.int).length 0 none)).take (HT.sIx (ns.map V.int).length (ns.map V.int).length (some 63) - HT.sIx (ns.map V.int).length 0 none), 0, upd_same, ?_, Int.le_refl 0, ?_⟩ ?_ np
      · rw [upd_ne nlp.symm, upd_same]
        unfold cutV
        rw [List.map_take, List.map_drop]
      · rw [List.length_take, List.length_drop]; omega
      · intro b u e
        have nb := ne_of_none e np
        have e1 : upd H p (.dK []) b = some u := by rw [upd_ne nb]; exact e
        have nbq := ne_of_none e1 nq
        have e2 : (upd (upd H p (.dK [])) q (.lst (cutV (ns.map V.int) none (some 63)))) b = some u := by rw [upd_ne nbq]; exact e1
        rw [upd_ne nb, upd_ne (ne_of_none e2 nl)]
        exact e2
theorem sc_draw : FnScope ["_law_pen", "_law_many", "_law_digit", "_law_index", "_law_size", "_law_cell", "_law_mixed"] ["_law_pen", "_law_many"] (defScope s_draw) := ⟨rfl, rfl, rfl, by decide +kernel, rfl, by decide +kernel, by decide +kernel⟩
theorem ok_draw (T : Txt K mg A) : FnOk P w K mg base CX0 1 A.a_draw A.d_draw ["_law_pen", "_law_many"] spDraw := by
  refine T.F_draw.ok sc_draw (fun vs H Q E h => ?_) (fun cdv A outer s H vs Q E hr h => ?_)
  · obtain ⟨d, l, b, k, rfl, _⟩ := h; rfl
  · obtain ⟨d, l, b, k, rfl, ⟨ns, m, hd, hc, hm, hn⟩, b0, b1, hk, kq⟩ := h
    have hu := hu_of hr
    have gL := pen_l l k m ▸ DGet.k (k := Sum.inr "left") hd
    have gO := pen_o l k m ▸ DGet.k (k := Sum.inr "next") hd
    have gC := pen_c l k m ▸ DGet.k (k := Sum.inr "cells") hd
    have ndl : l ≠ d := ne_of hc hd (fun z => nomatch z)
    refine ⟨_, (pss_cons (ps_if (pt_cmpR op_gt (pe_dget hu (pv 0) pe_str (fun _ _ => rfl)) pe_int (nomark _)) (pss_cons (ps_set (i := 2) sc_draw.nd rfl (Or.inl rfl) (pe_op op_mod (pe_callTy call_int1 (by rfl) T.z_int (by decide +kernel) (pa_cons (pe_dget hu (pv 0) pe_str (fun _ _ => rfl)) pa_nil)) (pv 1)))
       (pss_cons (ps_dput hu (pv 0) pe_str (pe_op op_fdiv (pe_dget hu (pv 0) pe_str (fun _ _ => rfl)) (pv 1)) rfl)
       (pss_one (ps_ret (pv 2)))))
        pss_nil)
      (pss_cons (ps_par (i := 3) (j := 4) (by rfl) sc_draw.nd rfl rfl (by decide) rfl rfl (pa_cons (pe_dget hu (pv 0) pe_str (fun _ _ => rfl)) (pa_cons (pe_callB call_len_seq (by rfl) T.z_len PySem.boot_len (pa_cons (pe_dget hu (pv 0) pe_str (fun _ _ => rfl)) pa_nil)) pa_nil)) (by rfl))
      (pss_cons (ps_dput hu (pv 0) pe_str (pe_op op_add (pv 3) pe_int) rfl)
      (pss_cons (ps_if (pt_cmpR op_eq (pv 4) pe_int (nomark _)) (pss_one (ps_ret (pe_op op_mod (pe_callTy call_int1 (by rfl) T.z_int (by decide +kernel) (pa_cons (pe_op op_add (pe_op op_mul pe_int (pv 3)) pe_int) pa_nil)) (pv 1))))
        pss_nil)
      (pss_cons (ps_set (i := 5) sc_draw.nd rfl (Or.inl rfl) (pe_ix ix_list (pe_dget hu (pv 0) pe_str (fun _ _ => rfl)) (pe_op op_mod (pe_callTy call_int1 (by rfl) T.z_int (by decide +kernel) (pa_cons (pv 3) pa_nil)) (pv 4)) (fun _ _ => rfl)))
      (pss_cons (ps_if (PW.pt (pw_and (pt_cmpR op_lt (pv 3) (pv 4) (nomark _)) (pw_and1 (pt_cmpR op_ge (pe_callB call_abs (by rfl) T.z_abs (by decide +kernel) (pa_cons (pv 5) pa_nil)) (pe_op op_pow pe_int pe_int) (nomark _))))) (pss_cons (ps_dput hu (pv 0) pe_str (pe_op op_fdiv (pe_op op_sub (pe_callB call_abs (by rfl) T.z_abs (by decide +kernel) (pa_cons (pv 5) pa_nil)) (pe_op op_pow pe_int pe_int)) (pv 1)) rfl)
       (pss_one (ps_ret (pe_op op_mod (pe_callTy call_int1 (by rfl) T.z_int (by decide +kernel) (pa_cons (pe_op op_sub (pe_callB call_abs (by rfl) T.z_abs (by decide +kernel) (pa_cons (pv 5) pa_nil)) (pe_op op_pow pe_int pe_int)) pa_nil)) (pv 1)))))
        pss_nil)
      (pss_cons (ps_set (i := 6) sc_draw.nd rfl (Or.inl rfl) (pe_op op_add (pe_op op_mul (pe_op op_mod (pe_callTy call_int1 (by rfl) T.z_int (by decide +kernel) (pa_cons (pv 5) pa_nil)) pe_int) pe_int) (pe_op op_mul (pe_op op_mul pe_int (pv 3)) (pv 3))))
      (pss_cons (ps_set (i := 6) sc_draw.nd rfl (Or.inl rfl) (pe_op op_mod (pe_callTy call_int1 (by rfl) T.z_int (by decide +kernel) (pa_cons (pe_op op_add (pe_op op_add (pv 6) (pe_op op_mul pe_int (pv 3))) pe_int) pa_nil)) pe_int))
      (pss_cons (ps_set (i := 6) sc_draw.nd rfl (Or.inl rfl) (pe_op op_mod (pe_callTy call_int1 (by rfl) T.z_int (by decide +kernel) (pa_cons (pe_op op_add (pe_op op_add (pe_op op_add (pe_op op_mul (pv 6) (pv 6)) (pe_op op_mul pe_int (pv 6))) (pe_op op_mul pe_int (pv 3))) pe_int) pa_nil)) pe_int))
      (pss_one (ps_ret (pe_op op_mod (pe_callTy call_int1 (by rfl) T.z_int (by decide +kernel) (pa_cons (pe_op op_fdiv (pe_op op_mod (pe_callTy call_int1 (by rfl) T.z_int (by decide +kernel) (pa_cons (pe_op op_mul (pv 6) (pe_op op_add (pv 6) pe_int)) pa_nil)) pe_int) pe_int) pa_nil)) (pv 1))))))))))))), ?_⟩
    refine ⟨_, rfl, d, _, rfl, gL, _, _, rfl, rfl, _, rfl, ite2 (fun c => ?_) (fun c => ?_)⟩
    · refine ⟨_, rfl, d, _, rfl, gL, .inl ⟨_, rfl, _, rfl, _, _, rfl, rfl, b0, ?_⟩⟩
      refine ⟨_, rfl, d, _, rfl, gL, _, rfl, _, _, rfl, rfl, ⟨b0, by omega⟩, _, rfl, d, _, rfl, DPut.k (k := Sum.inr "left") hd (by show 3 < sizeLine; decide), _, rfl, ?_⟩
      refine kq _ _ k (Int.emod_nonneg _ (by omega)) (Int.emod_lt_of_pos _ b0) (by omega) ⟨ns, m / b, ?_, ?_, Int.ediv_nonneg hm (by omega), hn⟩ (But.upd (fun _ _ _ e => e))
      · rw [put_l]; exact upd_same
      · rw [upd_ne ndl]; exact hc
    · refine ⟨_, rfl, d, _, rfl, gO, ?_⟩
      refine ⟨_, rfl, d, _, rfl, gC, l, _, rfl, .inl (SqL.of hc), ?_⟩
      refine ⟨_, _, rfl, _, rfl, _, _, rfl, rfl, _, rfl, d, _, rfl, DPut.k (k := Sum.inr "next") hd (by show 3 < sizeLine; decide), ?_⟩
      rw [put_o]
      have hd1 : upd H d (.dK (penK l ((k : Int) + 1) m)) d = some (.dK (penK l ((k : Int) + 1) m)) := upd_same
      have hc1 : upd H d (.dK (penK l ((k : Int) + 1) m)) l = some (.lst (ns.map V.int)) := by rw [upd_ne ndl]; exact hc
      have bt1 : But d H (upd H d (.dK (penK l ((k : Int) + 1) m))) := But.upd (fun _ _ _ e => e)
      generalize hH1 : upd H d (.dK (penK l ((k : Int) + 1) m)) = H1 at hd1 hc1 bt1 ⊢
      have gC1 := pen_c l ((k : Int) + 1) m ▸ DGet.k (k := Sum.inr "cells") hd1
      have pen1 : Pen H1 d l (k + 1) := ⟨ns, m, hd1, hc1, hm, hn⟩
      refine ⟨_, rfl, rfl, _, rfl, ite2 (fun c2 => ?_) (fun c2 => ?_)⟩
      · refine ⟨_, rfl, _, _, rfl, rfl, mul_l (by decide) (by decide), _, _, rfl, rfl, .inl ⟨_, rfl, _, rfl, _, _, rfl, rfl, b0, ?_⟩⟩
        exact kq _ _ (k + 1) (Int.emod_nonneg _ (by omega)) (Int.emod_lt_of_pos _ b0) (Nat.le_refl _) pen1 bt1
      · have hne : 0 < ns.length := by
          cases ns with
          | nil => exact absurd (decide_eq_true rfl) c2
          | cons _ _ => exact Nat.succ_pos _
        have lz : (0 : Int) < ((ns.map V.int).length : Int) := by rw [List.length_map]; omega
        obtain ⟨j, hj⟩ : ∃ j : Nat, (k : Int) % ((ns.map V.int).length : Int) = (j : Int) := ⟨((k : Int) % ((ns.map V.int).length : Int)).toNat, (Int.toNat_of_nonneg (Int.emod_nonneg _ (by omega))).symm⟩
        have hjl : j < ns.length := by
          have := Int.emod_lt_of_pos (k : Int) lz
          rw [hj, List.length_map] at this
          omega
        have hcell : (ns.map V.int)[j]? = some (V.int ns[j]) := by rw [List.getElem?_map, List.getElem?_eq_getElem hjl]; rfl
        refine ⟨_, rfl, d, _, rfl, gC1, _, rfl, .inl ⟨_, rfl, _, rfl, _, _, rfl, rfl, lz, ?_⟩⟩
        refine ⟨l, _, _, _, rfl, rfl, SqL.of hc1, at_of hj hcell, ?_⟩
        generalize ns[j] = z
        refine ⟨_, rfl, _, rfl, _, _, rfl, rfl, _, rfl, ?_⟩
        refine ite2 (fun _ => ?_) (fun _ => ?_)
        · refine ⟨_, rfl, _, rfl, _, _, rfl, rfl, ⟨by decide, by decide, by decide⟩, _, _, rfl, rfl, _, rfl, ite2 (fun c3 => ?_) (fun _ => ?_)⟩
          · have c4 := of_decide_eq_true c3
            refine ⟨_, rfl, _, rfl, _, _, rfl, rfl, ⟨by decide, by decide, by decide⟩, _, _, rfl, rfl, _, rfl, _, _, rfl, rfl, ⟨b0, by omega⟩, _, rfl, d, _, rfl, DPut.k (k := Sum.inr "left") hd1 (by show 3 < sizeLine; decide), ?_⟩
            refine ⟨_, rfl, _, rfl, _, _, rfl, rfl, ⟨by decide, by decide, by decide⟩, _, _, rfl, rfl, .inl ⟨_, rfl, _, rfl, _, _, rfl, rfl, b0, ?_⟩⟩
            refine kq _ _ (k + 1) (Int.emod_nonneg _ (by omega)) (Int.emod_lt_of_pos _ b0) (Nat.le_refl _) ⟨ns, _, by rw [put_l]; exact upd_same, ?_, Int.ediv_nonneg (Int.sub_nonneg_of_le c4) (by omega), hn⟩ (But.upd bt1)
            rw [upd_ne ndl]; exact hc1
          · exact (by
            refine ⟨_, rfl, .inl ⟨_, rfl, _, _, rfl, rfl, (by decide : (0 : Int) < 4294967197), _, _, rfl, rfl, mul_m (by decide) (by decide), _, rfl, _, _, rfl, rfl, mul_l (by decide) (by decide), _, rfl, _, _, rfl, rfl, mul_l (by omega) (by omega), _, _, rfl, rfl, ?_⟩⟩
            refine ⟨_, rfl, _, rfl, _, _, rfl, rfl, mul_l (by decide) (by decide), _, _, rfl, rfl, _, _, rfl, rfl, .inl ⟨_, rfl, _, _, rfl, rfl, (by decide : (0 : Int) < 4294967189), ?_⟩⟩
            refine ⟨_, rfl, _, rfl, _, _, rfl, rfl, mul_m (by decide) (by decide), _, rfl, _, _, rfl, rfl, mul_l (by decide) (by decide), _, _, rfl, rfl, _, rfl, _, _, rfl, rfl, mul_l (by decide) (by decide), _, _, rfl, rfl, _, _, rfl, rfl, .inl ⟨_, rfl, _, _, rfl, rfl, (by decide : (0 : Int) < 4294967161), ?_⟩⟩
            refine ⟨_, rfl, _, rfl, _, _, rfl, rfl, _, _, rfl, rfl, mul_m (by decide) (by decide), .inl ⟨_, rfl, _, _, rfl, rfl, (by decide : (0 : Int) < 4294967143), _, _, rfl, rfl, ⟨by decide, by decide⟩, .inl ⟨_, rfl, _, rfl, _, _, rfl, rfl, b0, ?_⟩⟩⟩
            exact kq _ _ (k + 1) (Int.emod_nonneg _ (by omega)) (Int.emod_lt_of_pos _ b0) (Nat.le_refl _) pen1 bt1)
        · refine iteF ?_
          exact (by
            refine ⟨_, rfl, .inl ⟨_, rfl, _, _, rfl, rfl, (by decide : (0 : Int) < 4294967197), _, _, rfl, rfl, mul_m (by decide) (by decide), _, rfl, _, _, rfl, rfl, mul_l (by decide) (by decide), _, rfl, _, _, rfl, rfl, mul_l (by omega) (by omega), _, _, rfl, rfl, ?_⟩⟩
            refine ⟨_, rfl, _, rfl, _, _, rfl, rfl, mul_l (by decide) (by decide), _, _, rfl, rfl, _, _, rfl, rfl, .inl ⟨_, rfl, _, _, rfl, rfl, (by decide : (0 : Int) < 4294967189), ?_⟩⟩
            refine ⟨_, rfl, _, rfl, _, _, rfl, rfl, mul_m (by decide) (by decide), _, rfl, _, _, rfl, rfl, mul_l (by decide) (by decide), _, _, rfl, rfl, _, rfl, _, _, rfl, rfl, mul_l (by decide) (by decide), _, _, rfl, rfl, _, _, rfl, rfl, .inl ⟨_, rfl, _, _, rfl, rfl, (by decide : (0 : Int) < 4294967161), ?_⟩⟩
            refine ⟨_, rfl, _, rfl, _, _, rfl, rfl, _, _, rfl, rfl, mul_m (by decide) (by decide), .inl ⟨_, rfl, _, _, rfl, rfl, (by decide : (0 : Int) < 4294967143), _, _, rfl, rfl, ⟨by decide, by decide⟩, .inl ⟨_, rfl, _, rfl, _, _, rfl, rfl, b0, ?_⟩⟩⟩
            exact kq _ _ (k + 1) (Int.emod_nonneg _ (by omega)) (Int.emod_lt_of_pos _ b0) (Nat.le_refl _) pen1 bt1)
theorem sc_pick : FnScope ["_law_pen", "_law_items"] ["_law_pen", "_law_items"] (defScope s_pick) := ⟨rfl, rfl, rfl, by decide +kernel, rfl, by decide +kernel, by decide +kernel⟩
theorem ok_pick (T : Txt K mg A) : FnOk P w K mg base CX0 2 A.a_pick A.d_pick ["_law_pen", "_law_items"] spPick := by
  have G_draw := ok_draw (P := P) (w := w) (base := base) T
  refine T.F_pick.ok sc_pick (fun vs H Q E h => ?_) (fun cdv Ar outer s H vs Q E hr h => ?_)
  · obtain ⟨d, l, p, xs, k, rfl, _⟩ := h; rfl
  · obtain ⟨d, l, p, xs, k, rfl, pen, hp, h0, h1, hk, kq⟩ := h
    refine ⟨_, (pss_one (ps_ret (pe_ix ix_list (pv 1) (pe_call G_draw (hr.mono (by decide)) (by rfl) T.g_draw T.F_draw.kp T.b_draw .nil pass0 (pa_cons (pv 0) (pa_cons (pe_callB call_len_seq (by rfl) T.z_len PySem.boot_len (pa_cons (pv 1) pa_nil)) pa_nil))) (fun _ _ => rfl)))), ?_⟩
    refine ⟨_, rfl, _, rfl, _, rfl, p, xs, rfl, .inl (SqL.of hp), d, l, _, k, rfl, pen, by omega, by omega, hk, fun v G k' v0 v1 kk pen' bt => ?_⟩
    obtain ⟨x, e⟩ := pen.some
    have hp' : G p = some (.lst xs) := bt _ _ (ne_of hp e (fun z => nomatch z)) hp
    have hv : v.toNat < xs.length := by omega
    refine ⟨p, xs, v, xs[v.toNat], rfl, rfl, SqL.of hp', at_of (Int.toNat_of_nonneg v0).symm (List.getElem?_eq_getElem hv), ?_⟩
    exact kq _ _ _ (List.getElem_mem hv) kk pen' bt
end
end Z

set_option Elab.async false
set_option linter.all false
set_option maxRecDepth 100000
set_option maxHeartbeats 8000000
/-! Ratio(1, 2); errors without fields; lengths are checked -/
namespace Z
open PySem L2 XV
/-- // by any divisor but 0 -/
theorem op_fdivX {X : Cx} : OpR X (binaryOp .FloorDiv) (rI (fun _ j => j ≠ 0 ∧ j.natAbs.log2 < 9000) fun i j => .int (i.fdiv j)) := opI fun _ _ _ _ _ _ _ hc q => PyProof.Rows.floordiv_int hc.1 q (.inl (PyProof.noPylong_of_log2 hc.2))
theorem put1r (u : V) : putF "number" u [] = [(("number" : Str), u)] := by kernel_rfl
theorem put2r (u v : V) : putF "over" v [(("number" : Str), u)] = [(("number" : Str), u), ("over", v)] := by kernel_rfl
def spR12 (C : Addr) : Sp := fun vs H Q _ => ∃ (x dx : Addr), vs = [.ref x, .int 1, .int 2] ∧ H x = some (.ins C dx []) ∧ ∀ H', But x H H' → H' x = some (.ins C dx [("number", .int 1), ("over", .int 2)]) → Q .non H'
/-- an error without fields keeps its object as it was made -/
def spBare (C : Addr) : Sp := fun vs H Q _ => ∃ a, vs = [.ref a] ∧ H a = some (exo a C none) ∧ ∀ G, Same H G → Q .non G
def isL : V → Bool
  | .int i => decide (1 ≤ i) && decide (i ≤ 25)
  | _ => false
def wid (l : Nat) : Int := 1 * 2 ^ ((25 : Int) - (l : Int)).toNat
def BadL (xs : List V) (i : Nat) : Prop := (∃ v, xs[i]? = some v ∧ isL v = false) ∧ ∀ j v, j < i → xs[j]? = some v → isL v = true
/-- lengths are checked: C1 TooMany, C2 BadLength, C3 NotFull -/
def spLens (K : PySem.W.Frag) (C1 C2 C3 : Addr) : Sp := fun vs H Q E => ∃ (a : Addr) (xs : List V), vs = [.ref a] ∧ SqE K H a xs ∧ (∀ x ∈ xs, Odd K H x) ∧
  (2 ≤ xs.length ∧ xs.length ≤ 26 → ∀ L : List Nat, xs = L.map (fun (l : Nat) => V.int (l : Int)) → (∀ l ∈ L, 1 ≤ l ∧ l ≤ 25) → ((L.map wid).sum = 2 ^ 25 → ∀ G, Same H G → Q .non G) ∧ ((L.map wid).sum ≠ 2 ^ 25 → ∀ G, Same H G → E (.ref C3) none G)) ∧
  (¬ (2 ≤ xs.length ∧ xs.length ≤ 26) → ∀ d G, Same H G → G d = some (.xd [("most", .int 26), ("many", .int ((xs.length : Nat) : Int)), ("what", .str "signs")]) → E (.ref C1) (some d) G) ∧
  (2 ≤ xs.length ∧ xs.length ≤ 26 → ∀ i : Nat, BadL xs i → ∀ d G, Same H G → G d = some (.xd [("index", .int (i : Int))]) → E (.ref C2) (some d) G)
theorem nats_of : ∀ {xs : List V}, (∀ x ∈ xs, isL x = true) → ∃ L : List Nat, xs = L.map (fun (l : Nat) => V.int (l : Int)) ∧ ∀ l ∈ L, 1 ≤ l ∧ l ≤ 25
  | [], _ => ⟨[], rfl, fun _ h => nomatch h⟩
  | x :: xs, h => by
    obtain ⟨L, e, hn⟩ := nats_of fun y hy => h y (List.mem_cons_of_mem _ hy)
    have hx := h x (List.mem_cons_self ..)
    cases x <;> first | (cases hx; done) | skip
    rename_i i
    have hx2 : decide (1 ≤ i) = true ∧ decide (i ≤ 25) = true := (Bool.and_eq_true _ _).mp hx
    have h1 : 1 ≤ i := of_decide_eq_true hx2.1
    have h2 : i ≤ 25 := of_decide_eq_true hx2.2
    have e2 : (i.toNat : Int) = i := Int.toNat_of_nonneg (by omega)
    refine ⟨i.toNat :: L, by rw [List.map_cons, e2, ← e], fun l hl => ?_⟩
    rcases List.mem_cons.mp hl with rfl | hl
    · omega
    · exact hn l hl
section
variable {P : Program} {w : World} {K : PySem.W.Frag} {mg : Str → Option Value} {base : Heap} {A : Ad}
theorem sc_rinit : FnScope ["self", "number", "over", "shared"] ["self", "number", "over"] (defScope s_rinit) := ⟨rfl, rfl, rfl, by decide +kernel, rfl, by decide +kernel, by decide +kernel⟩
theorem ok_r12 (T : Txt K mg A) : FnOk P w K mg base CX0 3 A.a_rinit A.d_rinit ["self", "number", "over"] (spR12 A.c_Ratio) := by
  have G_isint := ok_isint (P := P) (w := w) (base := base) T
  have Ro := T.Ro
  refine T.F_rinit.ok sc_rinit (fun vs H Q E h => ?_) (fun cdv Ar outer s H vs Q E hr h => ?_)
  · obtain ⟨x, dx, rfl, _⟩ := h; rfl
  · obtain ⟨x, dx, rfl, hx, kq⟩ := h
    refine ⟨_, (pss_cons (ps_if (PW.pt (pw_or (pt_not (pt_val (pe_call G_isint (hr.mono (by decide)) (by rfl) T.g_isint T.F_isint.kp T.b_isint .nil pass0 (pa_cons (pv 2) pa_nil)))) (pw_or1 (pt_cmpR op_eq (pv 2) pe_int (nomark _))))) (pss_one ps_never)
        pss_nil)
      (pss_cons (ps_set (i := 3) sc_rinit.nd rfl (Or.inl rfl) (pe_callBfun cr_gcd (by rfl) T.z_gcd (pa_cons (pv 1) (pa_cons (pv 2) pa_nil))))
      (pss_cons (ps_if (pt_cmpR op_lt (pv 2) pe_int (nomark _)) (pss_one (ps_set (i := 3) sc_rinit.nd rfl (Or.inl rfl) (pe_un un_neg (pv 3))))
        pss_nil)
      (pss_cons (ps_fld (pv 0) (pe_op op_fdivX (pv 1) (pv 3)) rfl)
      (pss_one (ps_fld (pv 0) (pe_op op_fdivX (pv 2) (pv 3)) rfl)))))), ?_⟩
    refine ⟨_, rfl, .int 2, rfl, .int 2, _, rfl, iteF ⟨_, rfl, rfl, _, rfl, iteF ?_⟩⟩
    refine ⟨_, rfl, _, rfl, 1, 2, rfl, ?_⟩
    refine ⟨_, rfl, 2, 0, rfl, rfl, _, rfl, iteF ?_⟩
    refine ⟨_, rfl, _, rfl, _, _, rfl, rfl, ⟨by decide, by decide +kernel⟩, _, rfl, x, _, dx, _, rfl, hx, Ro.cl, Ro.n_number, (by show 0 < 1000; decide), ?_⟩
    rw [put1r]
    refine ⟨_, rfl, _, rfl, _, _, rfl, rfl, ⟨by decide, by decide +kernel⟩, _, rfl, x, _, dx, _, rfl, upd_same, Ro.cl, Ro.n_over, (by show 1 < 1000; decide), ?_⟩
    rw [put2r]
    exact kq _ (But.upd (But.upd (fun _ _ _ e => e))) upd_same
theorem sc_NotFull : FnScope ["self"] ["self"] (defScope s_NotFull) := ⟨rfl, rfl, rfl, by decide +kernel, rfl, by decide +kernel, by decide +kernel⟩
theorem ok_NotFull (T : Txt K mg A) : FnOk P w K mg base (L2.CX P w) 1 A.i_NotFull A.d_NotFull ["self"] (spBare A.c_NotFull) := by
  refine T.E_NotFull.F.okX sc_NotFull (fun vs H Q E h => ?_) (fun cdv A' outer s H vs Q E hr h => ?_)
  · obtain ⟨a, rfl, _⟩ := h; rfl
  · obtain ⟨a, rfl, ha, k⟩ := h
    refine ⟨_, (pss_one (ps_expr (pe_binit T.B (by rfl) T.gj (pa_cons (pv 0) (pa_cons pe_str pa_nil))))), ?_⟩
    exact base_step T.E_NotFull.E.T rfl ha (k H fun _ _ e => e)
theorem sc_lens : FnScope ["lengths", "index", "length"] ["lengths"] (defScope s_lens) := ⟨rfl, rfl, rfl, by decide +kernel, rfl, by decide +kernel, by decide +kernel⟩
theorem ok_lens (T : Txt K mg A) : FnOk P w K mg base (L2.CX P w) 5 A.a_lens A.d_lens ["lengths"] (spLens K A.c_TooMany A.c_BadLength A.c_NotFull) := by
  have G_checkmany := ok_checkmany (P := P) (w := w) (base := base) T
  have G_BadLength := ok_BadLength (P := P) (w := w) (base := base) T
  have G_NotFull := ok_NotFull (P := P) (w := w) (base := base) T
  have G_isint := ok_isint (P := P) (w := w) (base := base) T
  refine T.F_lens.okX sc_lens (fun vs H Q E h => ?_) (fun cdv Ar outer s H vs Q E hr h => ?_)
  · obtain ⟨a, xs, rfl, _⟩ := h; rfl
  · obtain ⟨a, xs, rfl, hs, ho, kq, k1, k2⟩ := h
    refine ⟨_, (pss_cons (ps_expr (pe_call G_checkmany (hr.mono (by decide)) (by rfl) T.g_checkmany T.F_checkmany.kp T.b_checkmany .nil (passes_call (takes_of rfl rfl rfl rfl) (fun _ _ _ _ h => h)) (pa_cons (pe_callB call_len_seq (by rfl) T.z_len PySem.boot_len (pa_cons (pv 0) pa_nil)) pa_nil)))
      (pss_cons (ps_for (passes_of rfl) rfl (pi_or (pi_enum (by rfl) T.z_enumerate (pa_cons (pv 0) pa_nil)) (pi_enumF (by rfl) T.z_enumerate (pa_cons (pv 0) pa_nil))) (pg_tup (by rfl) (pgs_cons (pg_name (i := 1) sc_lens.nd rfl (Or.inl rfl)) (pgs_cons (pg_name (i := 2) sc_lens.nd rfl (Or.inl rfl)) pgs_nil)))
         (pss_one (ps_if (PW.pt (pw_or (pt_not (pt_val (pe_call G_isint (hr.mono (by decide)) (by rfl) T.g_isint T.F_isint.kp T.b_isint .nil pass0 (pa_cons (pv 2) pa_nil)))) (pw_or (pt_cmpR op_lt (pv 2) pe_int (nomark _)) (pw_or1 (pt_cmpR op_gt (pv 2) (pe_glob (v := .int 25) rfl (Classical.choose_spec T.k_LONGEST_WORD) ⟨_, rfl⟩) (nomark _)))))) (pss_one (ps_raise rfl (takes_of rfl rfl rfl rfl) (pmk_oex T.E_BadLength.E.T T.E_BadLength.E.iC T.E_BadLength.E.tI G_BadLength (hr.mono (by decide)) T.E_BadLength.bb .nil pass0 (by rfl) T.E_BadLength.g (pa_cons (pv 1) pa_nil))))
           pss_nil)))
      (pss_one (ps_if (pt_cmpR op_ne (pe_callB (cr_sum rfl) (by rfl) T.z_sum (by decide +kernel) (pa_cons (pe_lc (own := [("length", 2)]) (by rfl) sc_lens.nd (pi_or (pi_list (pv 0)) (pi_tup (pv 0))) (blkOk_by (own := [("length", 2)]) (N := ["lengths", "index", "length"]) (sc := defScope s_lens) (by decide +kernel)) (fun _ _ _ _ _ => (pg_name (i := 2) sc_lens.nd rfl (Or.inl rfl))) (fun _ _ _ _ _ => pts_nil) (fun _ _ _ _ _ => (pe_op op_shl pe_int (pe_op op_sub (pe_glob (v := .int 25) rfl (Classical.choose_spec T.k_LONGEST_WORD) ⟨_, rfl⟩) (pv 2))))) pa_nil)) (pe_op op_shl pe_int (pe_glob (v := .int 25) rfl (Classical.choose_spec T.k_LONGEST_WORD) ⟨_, rfl⟩)) (nomark _)) (pss_one (ps_raise rfl (takes_of rfl rfl rfl rfl) (pmk_oex0 T.E_NotFull.E G_NotFull (hr.mono (by decide)) T.E_NotFull.b passX rfl (by rfl) T.E_NotFull.g)))
        pss_nil)))), ?_⟩
    refine ⟨_, rfl, a, xs, rfl, hs, _, rfl, fun h26 => ?_, fun n d G s e => k1 (fun z => n ⟨by omega, by omega⟩) d G s e⟩
    have h26 : 2 ≤ xs.length ∧ xs.length ≤ 26 := ⟨by omega, by omega⟩
    refine enum_read (a := a) (xs := xs) rfl (enumE hs (fun i ρ G => (∃ y z, ρ = [some (.ref a), y, z]) ∧ Same H G ∧ ∀ j v, j < i → xs[j]? = some v → isL v = true) (fun _ _ _ h => h.2.1) ⟨⟨_, _, rfl⟩, Same.refl H, fun j v hj => absurd hj (Nat.not_lt_zero j)⟩ ?_ ?_)
    · rintro i x ρ G1 t hx ⟨⟨y, z, rfl⟩, sm, hb⟩ nt
      have sm1 : Same H (upd G1 t (.tup [.int (i : Int), x])) := sm.trans (same_new nt)
      have ox := (ho x (List.mem_of_getElem? hx)).same sm1
      refine ⟨t, _, rfl, SqT.of upd_same, rfl, _, _, rfl, _, _, rfl, rfl, ?_⟩
      generalize upd G1 t (.tup [.int (i : Int), x]) = G2 at sm1 ox ⊢
      have rd : isL x = false → _ := fun n => err_read (K := K) (Q := E) (C := A.c_BadLength) (fs := ["index"]) (us := [.int (i : Int)]) (H := G2) rfl (by show 1 ≤ 1000; decide) (fun u hu => by simp only [List.mem_cons, List.not_mem_nil, or_false] at hu; subst hu; exact fl_int _)
        (fun u hu => by simp only [List.mem_cons, List.not_mem_nil, or_false] at hu; subst hu; exact .int _) (fun d G s e => k2 h26 i ⟨⟨x, hx, n⟩, hb⟩ d G (sm1.trans s) e)
      refine ⟨_, rfl, x, rfl, ox, _, rfl, ?_⟩
      cases hI : isI x with
      | false =>
        have nc : isL x = false := by cases x <;> first | rfl | cases hI
        exact iteT ⟨_, rfl, rd nc⟩
      | true =>
        obtain ⟨n, rfl⟩ : ∃ n, x = .int n := by cases x <;> first | exact ⟨_, rfl⟩ | cases hI
        refine iteF ⟨_, rfl, _, _, rfl, rfl, _, rfl, ?_⟩
        by_cases c : n < 1
        · rw [decide_eq_true c]
          exact iteT ⟨_, rfl, rd (by show (decide (1 ≤ n) && decide (n ≤ 25)) = false; rw [show decide (1 ≤ n) = false from decide_eq_false (by omega), Bool.false_and])⟩
        · rw [decide_eq_false c]
          refine iteF ⟨_, rfl, _, _, rfl, rfl, _, rfl, ?_⟩
          by_cases c2 : 25 < n
          · rw [decide_eq_true c2]
            exact iteT ⟨_, rfl, rd (by show (decide (1 ≤ n) && decide (n ≤ 25)) = false; rw [show decide (n ≤ 25) = false from decide_eq_false (by omega), Bool.and_false])⟩
          · rw [decide_eq_false c2]
            refine iteF ⟨⟨_, _, rfl⟩, sm1, fun j v hj hv => ?_⟩
            rcases Nat.lt_succ_iff_lt_or_eq.mp hj with hj | rfl
            · exact hb j v hj hv
            · rw [hx] at hv
              cases hv
              show (decide (1 ≤ n) && decide (n ≤ 25)) = true
              rw [decide_eq_true (by omega), decide_eq_true (by omega)]; rfl
    · rintro ρ G1 ⟨⟨y, z, rfl⟩, sm, hb⟩
      obtain ⟨L, rfl, hL⟩ := nats_of fun x hx => by
        obtain ⟨j, hj, e⟩ := List.getElem_of_mem hx
        exact hb j x hj (by rw [List.getElem?_eq_getElem hj, e])
      obtain ⟨kq1, kq2⟩ := kq h26 L rfl hL
      have ll : (L.map fun (l : Nat) => V.int (l : Int)).length = L.length := by simp
      refine seq_read (a := a) (xs := L.map fun (l : Nat) => V.int (l : Int)) rfl (lc_E (hs.same sm) (fun D i G => Same G1 G ∧ G D = some (.lst (((L.take i).map wid).map V.int))) (fun _ _ _ h => h.1) (fun D hD => ⟨same_new hD, by simp [upd_same]⟩) ?_ ?_)
      · rintro D i x G2 hD hx ⟨s2, hD2⟩
        rw [List.getElem?_map] at hx
        obtain ⟨l, hl, rfl⟩ := Option.map_eq_some_iff.mp hx
        have r := hL l (List.mem_of_getElem? hl)
        refine ⟨rfl, yes_of ?_⟩
        refine ⟨_, rfl, _, _, rfl, rfl, _, _, rfl, rfl, ⟨by omega, by omega, by decide⟩, _, hD2, ?_, fun b o e => by rw [upd_ne (ne_of_none e hD)]; exact s2 _ _ e, ?_⟩
        · rw [List.length_map, List.length_map, List.length_take, sizeLine_eq]
          omega
        · rw [upd_same, List.take_succ, hl, List.map_append, List.map_append]
          rfl
      · rintro D G2 hD ⟨s2, hD2⟩
        rw [ll, List.take_length] at hD2
        refine ⟨D, L.map wid, rfl, SqL.of hD2, _, _, rfl, rfl, ⟨by decide, by decide, by decide⟩, rfl, _, rfl, ?_⟩
        have q25 : (1 : Int) * 2 ^ (25 : Int).toNat = 2 ^ 25 := by decide +kernel
        by_cases c : (L.map wid).sum = 2 ^ 25
        · have e : decide (V.int (L.map wid).sum = V.int (1 * 2 ^ (25 : Int).toNat)) = true := decide_eq_true (by rw [q25, c])
          rw [e]
          exact iteF (kq1 c _ (sm.trans s2))
        · have e : decide (V.int (L.map wid).sum = V.int (1 * 2 ^ (25 : Int).toNat)) = false := decide_eq_false (fun z => c (by rw [q25] at z; injection z))
          rw [e]
          refine iteT (fun e ne => ⟨?_, e, rfl, upd_same, fun G3 s3 => ⟨rfl, e, rfl, s3 _ _ upd_same, ?_, kq2 c _ fun b o h => ?_⟩⟩)
          · cases he : H e with
            | none => exact he
            | some o => have := (sm.trans s2) _ _ he; rw [ne] at this; cases this
          · cases he : H e with
            | none => exact he
            | some o => have := (sm.trans s2) _ _ he; rw [ne] at this; cases this
          · have h2 := (sm.trans s2) _ _ h
            have be : b ≠ e := ne_of_none h2 ne
            rw [delH_ne be]
            exact s3 b o (by rw [upd_ne be]; exact h2)
end
end Z

set_option Elab.async false
set_option linter.all false
set_option maxRecDepth 100000
set_option maxHeartbeats 8000000
/-! words are checked -/
namespace Z
open PySem L2 XV KR
open PyProof.Rows Builtin Builtin.Str StrLaws
def isB (x : List Nat) : Bool := x.all fun c => decide (c = 48) || decide (c = 49)
def isW (v : V) (l : Nat) : Bool := match v with
  | .str s => decide (s.cps.toList.length = l) && isB s.cps.toList
  | _ => false
def short (v : V) : Prop := ∀ s, v = .str s → s.cps.toList.length ≤ 1000
theorem cnt_isB (x : List Nat) : cnt 48 x + cnt 49 x ≤ (x.length : Int) ∧ (cnt 48 x + cnt 49 x = (x.length : Int) ↔ isB x = true) := by
  induction x with
  | nil => exact ⟨by decide, by decide⟩
  | cons a r ih =>
    obtain ⟨h1, h2⟩ := ih
    unfold isB at h2 ⊢
    rw [cnt_cons, cnt_cons, List.length_cons, List.all_cons]
    by_cases c : a = 48
    · subst c
      rw [if_pos rfl, if_neg (by decide)]
      refine ⟨by omega, ?_⟩
      rw [show (decide ((48 : Nat) = 48) || decide ((48 : Nat) = 49)) = true from rfl, Bool.true_and, ← h2]
      omega
    · by_cases c2 : a = 49
      · subst c2
        rw [if_neg (by decide), if_pos rfl]
        refine ⟨by omega, ?_⟩
        rw [show (decide ((49 : Nat) = 48) || decide ((49 : Nat) = 49)) = true from rfl, Bool.true_and, ← h2]
        omega
      · rw [if_neg (fun z => c (by omega)), if_neg (fun z => c2 (by omega))]
        refine ⟨by omega, ?_⟩
        rw [decide_eq_false c, decide_eq_false c2, Bool.or_false, Bool.false_and]
        refine ⟨fun h => ?_, fun h => nomatch h⟩
        omega
def nV (l : Nat) : V := V.int (l : Int)
def begT (a b : Str) : Bool := Txt.startswith a b || Txt.startswith b a
def BadW (ws : List V) (L : List Nat) (i : Nat) : Prop := (∃ v l, ws[i]? = some v ∧ L[i]? = some l ∧ isW v l = false) ∧ ∀ (j : Nat) (v : V) (l : Nat), j < i → ws[j]? = some v → L[j]? = some l → isW v l = true
def AllW (ws : List V) (L : List Nat) : Prop := ∀ (j : Nat) (v : V) (l : Nat), ws[j]? = some v → L[j]? = some l → isW v l = true
def BegAt (ss : List Str) (i j : Nat) : Prop := i < j ∧ (∃ a b, ss[i]? = some a ∧ ss[j]? = some b ∧ begT a b = true) ∧ ∀ (i' j' : Nat) (a b : Str), (i' < i ∨ (i' = i ∧ j' < j)) → i' < j' → ss[i']? = some a → ss[j']? = some b → begT a b = false
def Free (ss : List Str) : Prop := ∀ (i j : Nat) (a b : Str), i < j → ss[i]? = some a → ss[j]? = some b → begT a b = false
theorem strs_of : ∀ {ws : List V} {L : List Nat}, ws.length = L.length → AllW ws L → ∃ ss : List Str, ws = ss.map V.str
  | [], _, _, _ => ⟨[], rfl⟩
  | v :: ws, [], h, _ => nomatch h
  | v :: ws, l :: L, h, hA => by
    obtain ⟨ss, e⟩ := strs_of (ws := ws) (L := L) (by simpa using h) fun j w l' a b => hA (j + 1) w l' a b
    have h0 := hA 0 v l rfl rfl
    cases v <;> first | (cases h0; done) | skip
    rename_i s
    exact ⟨s :: ss, by rw [List.map_cons, e]⟩
def spIsW (K : PySem.W.Frag) : Sp := fun vs H Q _ => ∃ (v : V) (l : Nat), vs = [v, nV l] ∧ Odd K H v ∧ short v ∧ Q (.bl (isW v l)) H
def spCw (K : PySem.W.Frag) (C1 C2 : Addr) : Sp := fun vs H Q E => ∃ (b a : Addr) (ws : List V) (L : List Nat), vs = [.ref b, .ref a] ∧ SqE K H b ws ∧ SqE K H a (L.map nV) ∧ ws.length = L.length ∧ L.length ≤ 26 ∧ (∀ v ∈ ws, Odd K H v ∧ short v) ∧
  (∀ i : Nat, BadW ws L i → ∀ d G, Same H G → G d = some (.xd [("index", .int (i : Int))]) → E (.ref C1) (some d) G) ∧
  (∀ ss : List Str, ws = ss.map V.str → AllW ws L → (∀ i j : Nat, BegAt ss i j → ∀ d G, Same H G → G d = some (.xd [("other", .int (j : Int)), ("index", .int (i : Int))]) → E (.ref C2) (some d) G) ∧ (Free ss → ∀ G, Same H G → Q .non G))
section
variable {P : Program} {w : World} {K : PySem.W.Frag} {mg : Str → Option Value} {base : Heap} {A : Ad}
theorem sc_isword : FnScope ["value", "length"] ["value", "length"] (defScope s_isword) := ⟨rfl, rfl, rfl, by decide +kernel, rfl, by decide +kernel, by decide +kernel⟩
theorem ok_isword (T : Txt K mg A) : FnOk P w K mg base CX0 1 A.a_isword A.d_isword ["value", "length"] (spIsW K) := by
  refine T.F_isword.ok sc_isword (fun vs H Q E h => ?_) (fun cdv A outer s H vs Q E hr h => ?_)
  · obtain ⟨x, l, rfl, _⟩ := h; rfl
  · obtain ⟨v, l, rfl, hv, hs, kq⟩ := h
    refine ⟨_, (pss_cons (ps_if (PW.pt (pw_or (pt_not (pt_val (pe_callB call_isi (by rfl) T.z_isinstance (by decide +kernel) (pa_cons (pv 0) (pa_cons (pe_bltn (v := .ty "str") (by rfl) T.z_str (by decide +kernel) rfl) pa_nil))))) (pw_or1 (pt_cmpR op_ne (pe_callB call_len_str (by rfl) T.z_len PySem.boot_len (pa_cons (pv 0) pa_nil)) (pv 1) (nomark _))))) (pss_one (ps_ret pe_bl))
        pss_nil)
      (pss_one (ps_ret (pe_cmpR op_eq (pe_op op_add (pe_m1 PySem.F.slot_str_count PySem.F.type_str_count mt_count (pv 0) pe_str) (pe_m1 PySem.F.slot_str_count PySem.F.type_str_count mt_count (pv 0) pe_str)) (pv 1) (nomark _))))), ?_⟩
    cases hv with
    | non => exact ⟨_, rfl, _, .ty "str", .type "NoneType", .type "str", false, rfl, .ty "str", .base .non, kit_ty (by decide +kernel), false, rfl, iteT kq⟩
    | bl b => exact ⟨_, rfl, _, .ty "str", .type "bool", .type "str", false, rfl, .ty "str", .base (.bl b), kit_ty (by decide +kernel), false, rfl, iteT kq⟩
    | int i => exact ⟨_, rfl, _, .ty "str", .type "int", .type "str", false, rfl, .ty "str", .base (.int i), kit_ty (by decide +kernel), false, rfl, iteT kq⟩
    | lst h => exact ⟨_, rfl, _, .ty "str", .type "list", .type "str", false, rfl, .ty "str", .base (.lst h), kit_ty (by decide +kernel), false, rfl, iteT kq⟩
    | tup h => exact ⟨_, rfl, _, .ty "str", .type "tuple", .type "str", false, rfl, .ty "str", .base (.tup h), kit_ty (by decide +kernel), false, rfl, iteT kq⟩
    | dct h => exact ⟨_, rfl, _, .ty "str", .type "dict", .type "str", false, rfl, .ty "str", .base (.dK h), kit_ty (by decide +kernel), false, rfl, iteT kq⟩
    | ins h I => exact ⟨_, rfl, _, .ty "str", .ref _, .type "str", false, rfl, .ty "str", .base (.ins h I.cl I.ha I.hn I.ht I.hm), I.ks, false, rfl, iteT kq⟩
    | str x =>
      have hl := hs x rfl
      have ex : x = txt x.cps.toList := txt_of rfl
      have kq2 : Q (.bl (decide (x.cps.toList.length = l) && isB x.cps.toList)) H := kq
      clear kq hs
      generalize x.cps.toList = xs at ex hl kq2
      subst ex
      refine ⟨_, rfl, .str _, .ty "str", .type "str", .type "str", true, rfl, .ty "str", .base (.str _), kit_ty (by decide +kernel), true, rfl, iteF ?_⟩
      refine ⟨_, rfl, _, rfl, (by rw [txt_len]; exact Nat.le_trans hl (by decide)), _, rfl, rfl, _, rfl, ?_⟩
      by_cases c : xs.length = l
      · rw [show decide (V.int (((txt xs).length : Nat) : Int) = nV l) = true from decide_eq_true (by rw [txt_len, c]; rfl)]
        refine iteF ?_
        refine ⟨_, rfl, ⟨_, rfl⟩, _, _, rfl, rfl, _, rfl, ⟨_, rfl⟩, _, _, rfl, rfl, _, _, rfl, rfl, _, rfl, rfl, ?_⟩
        show Q (V.bl (decide (V.int (Txt.count (txt xs) ⟨#[48]⟩ + Txt.count (txt xs) ⟨#[49]⟩) = V.int (l : Int)))) H
        rw [count_cnt, count_cnt]
        show Q (V.bl (decide (V.int (cnt 48 xs.toArray.toList + cnt 49 xs.toArray.toList) = V.int (l : Int)))) H
        rw [show xs.toArray.toList = xs by simp]
        rw [decide_eq_true c, Bool.true_and] at kq2
        have e := (cnt_isB xs).2
        rw [c] at e
        cases hB : isB xs with
        | true =>
          rw [hB] at kq2 e
          rw [e.mpr rfl, decide_eq_true rfl]; exact kq2
        | false =>
          rw [hB] at kq2 e
          rw [decide_eq_false (fun z => by injection z with z; exact absurd (e.mp z) (by decide))]; exact kq2
      · rw [show decide (V.int (((txt xs).length : Nat) : Int) = nV l) = false from decide_eq_false (fun z => c (by rw [txt_len] at z; unfold nV at z; injection z with z; omega))]
        rw [decide_eq_false c, Bool.false_and] at kq2
        exact iteT kq2
theorem sc_cwords : FnScope ["words", "lengths", "index", "word", "other"] ["words", "lengths"] (defScope s_cwords) := ⟨rfl, rfl, rfl, by decide +kernel, rfl, by decide +kernel, by decide +kernel⟩
theorem ok_cwords (T : Txt K mg A) : FnOk P w K mg base (L2.CX P w) 4 A.a_cwords A.d_cwords ["words", "lengths"] (spCw K A.c_BadWord A.c_Begins) := by
  have G_isword := ok_isword (P := P) (w := w) (base := base) T
  have G_BadWord := ok_BadWord (P := P) (w := w) (base := base) T
  have G_Begins := ok_Begins (P := P) (w := w) (base := base) T
  refine T.F_cwords.okX sc_cwords (fun vs H Q E h => ?_) (fun cdv Ar outer s H vs Q E hr h => ?_)
  · obtain ⟨b, a, ws, L, rfl, _⟩ := h; rfl
  · obtain ⟨b, a, ws, L, rfl, hb, ha, wl, l26, ho, k1, k2⟩ := h
    refine ⟨_, (pss_cons (ps_for (passes_of rfl) rfl (pi_or (pi_enum (by rfl) T.z_enumerate (pa_cons (pv 0) pa_nil)) (pi_enumF (by rfl) T.z_enumerate (pa_cons (pv 0) pa_nil))) (pg_tup (by rfl) (pgs_cons (pg_name (i := 2) sc_cwords.nd rfl (Or.inl rfl)) (pgs_cons (pg_name (i := 3) sc_cwords.nd rfl (Or.inl rfl)) pgs_nil)))
         (pss_one (ps_if (pt_not (pt_val (pe_call G_isword (hr.mono (by decide)) (by rfl) T.g_isword T.F_isword.kp T.b_isword .nil pass0 (pa_cons (pv 3) (pa_cons (pe_ix ix_seq (pv 1) (pv 2) (fun _ _ => rfl)) pa_nil))))) (pss_one (ps_raise rfl (takes_of rfl rfl rfl rfl) (pmk_oex T.E_BadWord.E.T T.E_BadWord.E.iC T.E_BadWord.E.tI G_BadWord (hr.mono (by decide)) T.E_BadWord.bb .nil pass0 (by rfl) T.E_BadWord.g (pa_cons (pv 2) pa_nil))))
           pss_nil)))
      (pss_one (ps_for (passes_of rfl) rfl (pi_or (pi_enum (by rfl) T.z_enumerate (pa_cons (pv 0) pa_nil)) (pi_enumF (by rfl) T.z_enumerate (pa_cons (pv 0) pa_nil))) (pg_tup (by rfl) (pgs_cons (pg_name (i := 2) sc_cwords.nd rfl (Or.inl rfl)) (pgs_cons (pg_name (i := 3) sc_cwords.nd rfl (Or.inl rfl)) pgs_nil)))
         (pss_one (ps_for (passes_of rfl) rfl (pi_range2 (by rfl) T.z_range (pa_cons (pe_op op_add (pv 2) pe_int) (pa_cons (pe_callB call_len_seq (by rfl) T.z_len PySem.boot_len (pa_cons (pv 0) pa_nil)) pa_nil))) (pg_name (i := 4) sc_cwords.nd rfl (Or.inl rfl))
            (pss_one (ps_if (PW.pt (pw_or (pt_val (pe_m1 PySem.F.slot_str_startswith PySem.F.type_str_startswith mt_startswith (pv 3) (pe_ix ix_seq (pv 0) (pv 4) (fun _ _ => rfl)))) (pw_or1 (pt_val (pe_m1 PySem.F.slot_str_startswith PySem.F.type_str_startswith mt_startswith (pe_ix ix_seq (pv 0) (pv 4) (fun _ _ => rfl)) (pv 3)))))) (pss_one (ps_raise rfl (takes_of rfl rfl rfl rfl) (pmk_oex T.E_Begins.E.T T.E_Begins.E.iC T.E_Begins.E.tI G_Begins (hr.mono (by decide)) T.E_Begins.bb .nil pass0 (by rfl) T.E_Begins.g (pa_cons (pv 2) (pa_cons (pv 4) pa_nil)))))
              pss_nil))))))), ?_⟩
    refine enum_read (a := b) (xs := ws) rfl (enumE hb (fun i ρ G => (∃ y z u, ρ = [some (.ref b), some (.ref a), y, z, u]) ∧ Same H G ∧ ∀ (j : Nat) (v : V) (l : Nat), j < i → ws[j]? = some v → L[j]? = some l → isW v l = true) (fun _ _ _ h => h.2.1) ⟨⟨_, _, _, rfl⟩, Same.refl H, fun j v l hj => absurd hj (Nat.not_lt_zero j)⟩ ?_ ?_)
    · rintro i v ρ G1 t hx ⟨⟨y, z, u, rfl⟩, sm, hB⟩ nT
      have li : i < L.length := by rw [← wl]; exact (List.getElem?_eq_some_iff.mp hx).1
      have hl := List.getElem?_eq_getElem li
      have sm1 : Same H (upd G1 t (.tup [.int (i : Int), v])) := sm.trans (same_new nT)
      obtain ⟨ov, sv⟩ := ho v (List.mem_of_getElem? hx)
      have ov := ov.same sm1
      refine ⟨t, _, rfl, SqT.of upd_same, rfl, _, _, rfl, _, _, rfl, rfl, ?_⟩
      generalize upd G1 t (.tup [.int (i : Int), v]) = G2 at sm1 ov ⊢
      generalize L[i] = l at hl
      refine ⟨_, rfl, _, rfl, _, rfl, (ha.same sm1).ix rfl (by rw [List.getElem?_map, hl]; rfl) ?_⟩
      refine ⟨v, l, rfl, ov, sv, _, rfl, ?_⟩
      cases hw : isW v l with
      | false =>
        exact iteT ⟨_, rfl, err_read (K := K) (Q := E) (C := A.c_BadWord) (fs := ["index"]) (us := [.int (i : Int)]) (H := G2) rfl (by show 1 ≤ 1000; decide) (fun u hu => by simp only [List.mem_cons, List.not_mem_nil, or_false] at hu; subst hu; exact fl_int _)
          (fun u hu => by simp only [List.mem_cons, List.not_mem_nil, or_false] at hu; subst hu; exact .int _) (fun d G s e => k1 i ⟨⟨v, l, hx, hl, hw⟩, hB⟩ d G (sm1.trans s) e)⟩
      | true =>
        refine iteF ⟨⟨_, _, _, rfl⟩, sm1, fun j v' l' hj hv' hl' => ?_⟩
        rcases Nat.lt_succ_iff_lt_or_eq.mp hj with hj | rfl
        · exact hB j v' l' hj hv' hl'
        · rw [hx] at hv'; rw [hl] at hl'; cases hv'; cases hl'; exact hw
    · rintro ρ G1 ⟨⟨y, z, u, rfl⟩, sm, hB⟩
      have hA : AllW ws L := fun j v l hv hl => hB j v l (List.getElem?_eq_some_iff.mp hv).1 hv hl
      obtain ⟨ss, rfl⟩ := strs_of wl hA
      obtain ⟨kb, kf⟩ := k2 ss rfl hA
      rw [List.length_map] at wl
      have lw : (ss.map V.str).length = ss.length := List.length_map ..
      have sat : ∀ {i : Nat} {x : Str}, ss[i]? = some x → (ss.map V.str)[i]? = some (.str x) := fun h => by rw [List.getElem?_map, h]; rfl
      refine enum_read (a := b) (xs := ss.map V.str) rfl (enumE (hb.same sm) (fun i ρ G => (∃ y z u, ρ = [some (.ref b), some (.ref a), y, z, u]) ∧ Same G1 G ∧ ∀ (i' j' : Nat) (x x' : Str), i' < i → i' < j' → ss[i']? = some x → ss[j']? = some x' → begT x x' = false) (fun _ _ _ h => h.2.1) ⟨⟨_, _, _, rfl⟩, Same.refl G1, fun i' j' x x' h => absurd h (Nat.not_lt_zero _)⟩ ?_ ?_)
      · rintro i v ρ G2 t hx ⟨⟨y, z, u, rfl⟩, sm3, hF⟩ nT
        rw [List.getElem?_map] at hx
        obtain ⟨x, hw, rfl⟩ := Option.map_eq_some_iff.mp hx
        have s5 := sm3.trans (same_new (o := .tup [.int (i : Int), .str x]) nT)
        refine ⟨t, _, rfl, SqT.of upd_same, rfl, _, _, rfl, _, _, rfl, rfl, ?_⟩
        generalize upd G2 t (.tup [.int (i : Int), .str x]) = G3 at s5 ⊢
        have iw : i < ss.length := (List.getElem?_eq_some_iff.mp hw).1
        have hb3 := (hb.same sm).same s5
        refine ⟨_, rfl, _, _, rfl, rfl, _, rfl, b, _, rfl, hb3, _, _, rfl, ⟨by omega, by omega, by omega, by omega⟩, ?_⟩
        refine for_range (lo := (i : Int) + 1) (n := (((ss.map V.str).length : Nat) : Int) - ((i : Int) + 1) |>.toNat) (fun j σ G => (∃ z, σ = [some (.ref b), some (.ref a), some (.int (i : Int)), some (.str x), z]) ∧ G = G3 ∧ ∀ (j' : Nat) (x' : Str), i < j' → j' < i + 1 + j → ss[j']? = some x' → begT x x' = false) ⟨⟨_, rfl⟩, rfl, fun j' x' h1 h2 => by omega⟩ ?_ ?_
        · rintro j σ G4 hj ⟨⟨z, rfl⟩, rfl, hJ⟩
          have jw : i + 1 + j < ss.length := by omega
          have hy := List.getElem?_eq_getElem jw
          have ej : (i : Int) + 1 + (j : Int) = ((i + 1 + j : Nat) : Int) := by omega
          generalize ss[i + 1 + j] = y' at hy
          have rd : begT x y' = true → _ := fun n => err_read (K := K) (Q := E) (C := A.c_Begins) (fs := ["index", "other"]) (us := [.int (i : Int), .int ((i : Int) + 1 + (j : Int))]) (H := G4) rfl (by show 2 ≤ 1000; decide) (fun u hu => by simp only [List.mem_cons, List.not_mem_nil, or_false] at hu; rcases hu with rfl | rfl <;> exact fl_int _)
            (fun u hu => by simp only [List.mem_cons, List.not_mem_nil, or_false] at hu; rcases hu with rfl | rfl <;> exact .int _) (fun d G s e => kb i (i + 1 + j) ⟨by omega, ⟨x, y', hw, hy, n⟩, fun i' j' p q hc hij hp hq => by
              rcases hc with hc | ⟨rfl, hc⟩
              · exact hF i' j' p q hc hij hp hq
              · rw [hw] at hp; cases hp; exact hJ j' q hij hc hq⟩ d G ((sm.trans s5).trans s) (by rw [← ej]; exact e))
          refine ⟨_, rfl, ⟨_, rfl⟩, _, rfl, _, rfl, hb3.ix ej (sat hy) ?_⟩
          refine ⟨_, _, rfl, rfl, _, rfl, ?_⟩
          cases n1 : Txt.startswith x y' with
          | true => exact iteT ⟨_, rfl, _, rfl, rd (by unfold begT; rw [n1]; rfl)⟩
          | false =>
          refine iteF ?_
          refine ⟨_, rfl, _, rfl, hb3.ix ej (sat hy) ?_⟩
          refine ⟨⟨_, rfl⟩, _, rfl, _, _, rfl, rfl, _, rfl, ?_⟩
          cases n2 : Txt.startswith y' x with
          | true => exact iteT ⟨_, rfl, _, rfl, rd (by unfold begT; rw [n2, Bool.or_true])⟩
          | false =>
          refine iteF ⟨⟨_, rfl⟩, rfl, fun j' x' h1 h2 h3 => ?_⟩
          by_cases c : j' = i + 1 + j
          · subst c
            rw [hy] at h3; cases h3
            unfold begT; rw [n1, n2]; rfl
          · exact hJ j' x' h1 (by omega) h3
        · rintro σ G4 ⟨⟨z, rfl⟩, rfl, hJ⟩
          refine ⟨⟨_, _, _, rfl⟩, s5, fun i' j' p q hc hij hp hq => ?_⟩
          rcases Nat.lt_succ_iff_lt_or_eq.mp hc with hc | rfl
          · exact hF i' j' p q hc hij hp hq
          · rw [hw] at hp; cases hp
            have := (List.getElem?_eq_some_iff.mp hq).1
            exact hJ j' q hij (by omega) hq
      · rintro ρ G2 ⟨⟨y, z, u, rfl⟩, sm2, hF⟩
        exact kf (fun i j p q hij hp hq => hF i j p q (by rw [lw]; exact (List.getElem?_eq_some_iff.mp hp).1) hij hp hq) G2 (sm.trans sm2)
end
end Z

set_option Elab.async false
set_option linter.all false
set_option maxRecDepth 100000
set_option maxHeartbeats 8000000
/-! canonical words; two_to, lengths of full codes, the law's words -/
namespace Z
open PySem L2 XV KR
def txs (ws : List (List Nat)) : List V := ws.map fun x => V.str (txt x)
def Ls (L : List Nat) : List V := (L.map fun (l : Nat) => (l : Int)).map V.int
def pr (L : List Nat) : List Pr := L.zipIdx
def cw (L : List Nat) : List (List Nat) := (pr L).map (word (pr L))
structure Good (L : List Nat) : Prop where
  lo : 2 ≤ L.length
  hi : L.length ≤ 26
  kr : Kr (pr L)
structure WOk (ws : List (List Nat)) (L : List Nat) : Prop where
  len : ws.length = L.length
  bit : ∀ (i : Nat) (x : List Nat) (l : Nat), ws[i]? = some x → L[i]? = some l → x.length = l ∧ ∀ c ∈ x, c = 48 ∨ c = 49
  free : ∀ (i j : Nat) (x y : List Nat), ws[i]? = some x → ws[j]? = some y → i < j → ¬ y <+: x ∧ ¬ x <+: y
theorem Good.at {L : List Nat} (G : Good L) {i l : Nat} (h : L[i]? = some l) : 1 ≤ l ∧ l ≤ 25 := by
  have : (l, i) ∈ pr L := by
    unfold pr
    rw [List.mem_zipIdx_iff_getElem?]
    exact h
  exact G.kr.2 _ this
theorem Ls_len (L : List Nat) : (Ls L).length = L.length := by simp [Ls]
theorem Ls_at {L : List Nat} {i l : Nat} (h : L[i]? = some l) : (Ls L)[i]? = some (.int (l : Int)) := by simp [Ls, h]
theorem Ls_of {L : List Nat} {i : Nat} {v : V} (h : (Ls L)[i]? = some v) : ∃ l, L[i]? = some l ∧ v = .int (l : Int) := by
  simp only [Ls, List.map_map, List.getElem?_map, Option.map_eq_some_iff] at h
  obtain ⟨l, e, rfl⟩ := h
  exact ⟨l, e, rfl⟩
theorem txs_len (ws : List (List Nat)) : (txs ws).length = ws.length := by simp [txs]
theorem txs_at {ws : List (List Nat)} {i : Nat} {x : List Nat} (h : ws[i]? = some x) : (txs ws)[i]? = some (.str (txt x)) := by simp [txs, h]
theorem txs_of {ws : List (List Nat)} {i : Nat} {v : V} (h : (txs ws)[i]? = some v) : ∃ x, ws[i]? = some x ∧ v = .str (txt x) := by
  simp only [txs, List.getElem?_map, Option.map_eq_some_iff] at h
  obtain ⟨l, e, rfl⟩ := h
  exact ⟨l, e, rfl⟩
def spTwo : Sp := fun vs H Q _ => ∃ n : Nat, vs = [.int (n : Int)] ∧ n ≤ 60 ∧ Q (.int ((2 ^ n : Nat) : Int)) H
theorem wid_eq {l : Nat} (h : l ≤ 25) : wid l = ((2 ^ (25 - l) : Nat) : Int) := by
  unfold wid
  rw [Int.one_mul, show ((25 : Int) - (l : Int)).toNat = 25 - l by omega]
  norm_cast
theorem wid_sum : ∀ (L : List Nat), (∀ l ∈ L, l ≤ 25) → (L.map wid).sum = (((L.map fun l => 2 ^ (25 - l)).sum : Nat) : Int)
  | [], _ => rfl
  | l :: L, h => by
    rw [List.map_cons, List.map_cons, List.sum_cons, List.sum_cons, wid_sum L fun x hx => h x (List.mem_cons_of_mem _ hx), wid_eq (h l (List.mem_cons_self ..))]
    omega
theorem pr_fst (L : List Nat) (f : Nat → Nat) : ((pr L).map fun q => f q.1) = L.map f := by
  unfold pr
  have : (L.zipIdx.map fun q => f q.1) = (L.zipIdx.map Prod.fst).map f := by rw [List.map_map]; rfl
  rw [this, List.zipIdx_map_fst]
theorem Good.le {L : List Nat} (G : Good L) : ∀ l ∈ L, l ≤ 25 := fun l hl => by
  obtain ⟨i, hi, e⟩ := List.getElem_of_mem hl
  exact (G.at (i := i) (by rw [List.getElem?_eq_getElem hi, e])).2
theorem Good.sum {L : List Nat} (G : Good L) : (L.map wid).sum = 1 * 2 ^ (25 : Int).toNat := by
  rw [wid_sum L G.le, ← pr_fst L, G.kr.1]
  rfl
section
variable {P : Program} {w : World} {K : PySem.W.Frag} {mg : Str → Option Value} {base : Heap} {A : Ad}
theorem sc_two : FnScope ["_law_many", "_law_found", "_law_turn"] ["_law_many"] (defScope s_two) := ⟨rfl, rfl, rfl, by decide +kernel, rfl, by decide +kernel, by decide +kernel⟩
theorem ok_two (T : Txt K mg A) : FnOk P w K mg base CX0 1 A.a_two A.d_two ["_law_many"] spTwo := by
  refine T.F_two.ok sc_two (fun vs H Q E h => ?_) (fun cdv A outer s H vs Q E hr h => ?_)
  · obtain ⟨n, rfl, _⟩ := h; rfl
  · obtain ⟨n, rfl, hn, kq⟩ := h
    refine ⟨_, (pss_cons (ps_set (i := 1) sc_two.nd rfl (Or.inl rfl) pe_int)
      (pss_cons (ps_for PassesOwn.never rfl (pi_range1 (by rfl) T.z_range (pa_cons (pv 0) pa_nil)) (pg_name (i := 2) sc_two.nd rfl (Or.inl rfl))
         (pss_one (ps_set (i := 1) sc_two.nd rfl (Or.inl rfl) (pe_op op_mul (pv 1) pe_int))))
      (pss_one (ps_ret (pv 1))))), ?_⟩
    refine ⟨_, rfl, _, rfl, by omega, by omega, ?_⟩
    refine for_range (lo := 0) (n := ((n : Int)).toNat) (fun j σ G => (∃ z, σ = [some (.int (n : Int)), some (.int ((2 ^ j : Nat) : Int)), z]) ∧ G = H) ⟨⟨_, rfl⟩, rfl⟩ ?_ ?_
    · rintro j σ G hj ⟨⟨z, rfl⟩, rfl⟩
      refine ⟨_, rfl, _, _, rfl, rfl, .inr ⟨by decide, by decide⟩, ⟨some (.int (0 + (j : Int))), ?_⟩, rfl⟩
      have e : ((2 ^ j : Nat) : Int) * 2 = ((2 ^ (j + 1) : Nat) : Int) := by rw [Nat.pow_succ]; rfl
      show [some (V.int (n : Int)), some (V.int (((2 ^ j : Nat) : Int) * 2)), some (.int (0 + (j : Int)))] = _
      rw [e]
    · rintro σ G ⟨⟨z, rfl⟩, rfl⟩
      exact ⟨_, rfl, by rw [Int.toNat_natCast]; exact kq⟩
end
def spCanon (K : PySem.W.Frag) : Sp := fun vs H Q _ => ∃ (a : Addr) (L : List Nat), vs = [.ref a] ∧ SqE K H a (Ls L) ∧ Good L ∧ ∀ p H', H p = none → Same H H' → H' p = some (.lst (txs (cw L))) → Q (.ref p) H'
theorem pr_at (L : List Nat) (i : Nat) : (pr L)[i]? = L[i]?.map fun l => (l, i) := by
  unfold pr
  rw [List.getElem?_zipIdx]
  simp
theorem pr_len (L : List Nat) : (pr L).length = L.length := by simp [pr]
theorem pr_nodup (L : List Nat) : (pr L).Nodup := by
  have h : ((pr L).map Prod.snd).Nodup := by
    unfold pr
    rw [List.zipIdx_map_snd]
    exact List.nodup_range'
  exact List.Pairwise.of_map Prod.snd (fun a b h e => h (by rw [e])) h
theorem cw_at {L : List Nat} {i l : Nat} (h : L[i]? = some l) : (cw L)[i]? = some (word (pr L) (l, i)) := by
  unfold cw
  rw [List.getElem?_map, pr_at, h]
  rfl
theorem cw_len (L : List Nat) : (cw L).length = L.length := by simp [cw, pr_len]
theorem pr_mem {L : List Nat} {r : Pr} (h : r ∈ pr L) : L[r.2]? = some r.1 := by
  unfold pr at h
  exact List.mem_zipIdx_iff_getElem?.mp h
theorem strict {L : List Nat} {S : List Pr} (hp : S.Perm (pr L)) (hs : S.Pairwise fun x y => ltB y x = false) : S.Pairwise fun x y => ltB x y = true := by
  have nd : S.Nodup := hp.nodup_iff.mpr (pr_nodup L)
  refine (hs.and nd).imp fun {x y} h => ?_
  rcases ltB_tri h.2 with k | k
  · exact k
  · rw [h.1] at k; cases k
/-- what a reference to a pair tells -/
def key (G : Hp) : V → Int × Int
  | .ref t => match G t with
    | some (.tup [.int i, .int j]) => (i, j)
    | _ => (0, 0)
  | _ => (0, 0)
theorem key_of {G : Hp} {t : Addr} {i j : Int} (h : G t = some (.tup [.int i, .int j])) : key G (.ref t) = (i, j) := by
  simp only [key, h]
def nat2 (p : Int × Int) : Pr := (p.1.toNat, p.2.toNat)
theorem pad25 {l : Nat} (h : l ≤ 25) : PadOk (l : Int) = true := by
  have : ∀ l : Fin 26, PadOk ((l.val : Nat) : Int) = true := by decide +kernel
  exact this ⟨l, by omega⟩
/-- a sorted list of pairs, cut at i -/
theorem cut {S : List Pr} {i : Nat} {r : Pr} (h : S[i]? = some r) : S = S.take i ++ r :: S.drop (i + 1) ∧ S.take (i + 1) = S.take i ++ [r] ∧ S.drop i = r :: S.drop (i + 1) := by
  obtain ⟨lt, e⟩ := List.getElem?_eq_some_iff.mp h
  have d : S.drop i = r :: S.drop (i + 1) := by rw [← e]; exact List.drop_eq_getElem_cons lt
  refine ⟨?_, ?_, d⟩
  · rw [← d, List.take_append_drop]
  · rw [List.take_succ, h]; rfl
section
variable {P : Program} {w : World} {K : PySem.W.Frag} {mg : Str → Option Value} {base : Heap} {A : Ad}
theorem sc_canon : FnScope ["lengths", "words", "number", "ahead", "length", "sign", "index", "bits"] ["lengths"] (defScope s_canon) := ⟨rfl, rfl, rfl, by decide +kernel, rfl, by decide +kernel, by decide +kernel⟩
theorem ok_canon (T : Txt K mg A) : FnOk P w K mg base CX0 2 A.a_canon A.d_canon ["lengths"] (spCanon K) := by
  refine T.F_canon.ok sc_canon (fun vs H Q E h => ?_) (fun cdv A outer s H vs Q E hr h => ?_)
  · obtain ⟨a, L, rfl, _⟩ := h; rfl
  · obtain ⟨a, L, rfl, ha, G, kq⟩ := h
    have ll := Ls_len L
    have l2 := G.lo
    have l26 := G.hi
    refine ⟨_, (pss_cons (ps_set (i := 1) sc_canon.nd rfl (Or.inl rfl) (pe_op op_rep (pe_lst (pa_cons pe_str pa_nil)) (pe_callB call_len_seq (by rfl) T.z_len PySem.boot_len (pa_cons (pv 0) pa_nil))))
      (pss_cons (ps_set (i := 2) sc_canon.nd rfl (Or.inl rfl) pe_int)
      (pss_cons (ps_set (i := 3) sc_canon.nd rfl (Or.inl rfl) pe_int)
      (pss_cons (ps_for PassesOwn.never rfl (pi_list (pe_callB cr_sortedPO (by rfl) T.z_sorted (by decide +kernel) (pa_cons (pe_lc (own := [("index", 6), ("bits", 7)]) (by rfl) sc_canon.nd (pi_or (pi_enum (by rfl) T.z_enumerate (pa_cons (pv 0) pa_nil)) (pi_enumF (by rfl) T.z_enumerate (pa_cons (pv 0) pa_nil))) (blkOk_by (own := [("index", 6), ("bits", 7)]) (N := ["lengths", "words", "number", "ahead", "length", "sign", "index", "bits"]) (sc := defScope s_canon) (by decide +kernel)) (fun _ _ _ _ _ => (pg_tupK (K := K) (n := 2) rfl (by rfl) (pgs_cons (pg_name (i := 6) sc_canon.nd rfl (Or.inl rfl)) (pgs_cons (pg_name (i := 7) sc_canon.nd rfl (Or.inl rfl)) pgs_nil)))) (fun _ _ _ _ _ => pts_nil) (fun _ _ _ _ _ => (pe_tup (pa_cons (pv 7) (pa_cons (pv 6) pa_nil))))) pa_nil))) (pg_tup (by rfl) (pgs_cons (pg_name (i := 4) sc_canon.nd rfl (Or.inl rfl)) (pgs_cons (pg_name (i := 5) sc_canon.nd rfl (Or.inl rfl)) pgs_nil)))
         (pss_cons (ps_set (i := 2) sc_canon.nd rfl (Or.inl rfl) (pe_op op_shl (pv 2) (pe_op op_sub (pv 4) (pv 3))))
         (pss_cons (ps_asg (pe_m1 PySem.F.slot_str_zfill PySem.F.type_str_zfill mt_zfill (pe_joined1 (pe_fmtB (pv 2))) (pv 4)) (pg_sub (pv 1) (pv 5) set_list))
         (pss_cons (ps_set (i := 2) sc_canon.nd rfl (Or.inl rfl) (pe_op op_add (pv 2) pe_int))
         (pss_one (ps_set (i := 3) sc_canon.nd rfl (Or.inl rfl) (pv 4)))))))
      (pss_one (ps_ret (pv 1))))))), ?_⟩
    refine ⟨(by show 1 ≤ sizeLine; decide), fun p0 np0 => ?_⟩
    have s0 := same_new (o := .lst [V.str ""]) np0
    have e0 : upd H p0 (.lst [V.str ""]) p0 = some (.lst [V.str ""]) := upd_same
    generalize upd H p0 (.lst [V.str ""]) = H0 at s0 e0 ⊢
    refine ⟨_, rfl, a, _, rfl, ha.same s0, p0, _, _, rfl, rfl, e0, by omega, by omega, by show 1 * _ ≤ sizeLine; rw [sizeLine_eq]; omega, fun q nq => ?_⟩
    have nqH : H q = none := s0.free nq
    have eq1 : upd H0 q (.lst (List.replicate ((((Ls L).length : Nat) : Int)).toNat [V.str ""]).flatten) q = some (.lst (List.replicate L.length (V.str ""))) := by
      rw [upd_same, Int.toNat_natCast, ll]
      have : ∀ n : Nat, (List.replicate n [V.str ""]).flatten = List.replicate n (V.str "") := fun n => by
        induction n with
        | zero => rfl
        | succ n ih => rw [List.replicate_succ, List.flatten_cons, ih]; rfl
      rw [this]
    have s1 := s0.trans (same_new (o := .lst (List.replicate ((((Ls L).length : Nat) : Int)).toNat [V.str ""]).flatten) nq)
    generalize upd H0 q (.lst (List.replicate ((((Ls L).length : Nat) : Int)).toNat [V.str ""]).flatten) = H1 at s1 eq1 ⊢
    refine enum_read (a := a) (xs := Ls L) rfl (lc_enumE (ha.same s1) (fun D i G => Same H1 G ∧ ∃ ps : List Addr, G D = some (.lst (ps.map V.ref)) ∧ ps.length = i ∧ ∀ (j : Nat) (p : Addr), ps[j]? = some p → ∃ l : Nat, L[j]? = some l ∧ G p = some (.tup [.int (l : Int), .int (j : Int)])) (fun _ _ _ h => h.1) (fun D hD => ⟨same_new hD, [], upd_same, rfl, fun j p e => nomatch e⟩) ?_ ?_)
    · rintro D i x G1 T hD hx ⟨sm, ps, hps, hlen, hp⟩ nT
      obtain ⟨l, hl, rfl⟩ := Ls_of hx
      refine ⟨T, _, rfl, SqT.of upd_same, rfl, _, _, rfl, _, _, rfl, rfl, rfl, yes_of ?_⟩
      have sT := same_new (o := .tup [.int (i : Int), .int (l : Int)]) nT
      have smT := sm.trans sT
      have hpsT := sT _ _ hps
      have hpT : ∀ (j : Nat) (p : Addr), ps[j]? = some p → ∃ m : Nat, L[j]? = some m ∧ upd G1 T (.tup [.int (i : Int), .int (l : Int)]) p = some (.tup [.int (m : Int), .int (j : Int)]) := fun j p e => by
        obtain ⟨l', h1, h2⟩ := hp j p e
        exact ⟨l', h1, sT _ _ h2⟩
      generalize upd G1 T (.tup [.int (i : Int), .int (l : Int)]) = G2 at smT hpsT hpT ⊢
      refine ⟨_, rfl, _, rfl, (by show 2 ≤ sizeLine; decide), fun t nt => ?_⟩
      have st := same_new (o := .tup [V.int (l : Int), .int (i : Int)]) nt
      have ht : upd G2 t (.tup [V.int (l : Int), .int (i : Int)]) t = some (.tup [V.int (l : Int), .int (i : Int)]) := upd_same
      have sm3 := smT.trans st
      have hps3 := st _ _ hpsT
      refine ⟨_, hps3, by rw [List.length_map, hlen, sizeLine_eq]; have := (List.getElem?_eq_some_iff.mp hl).1; omega, fun b o e => by rw [upd_ne (ne_of_none e hD)]; exact sm3 _ _ e, ps ++ [t], by rw [List.map_append]; exact upd_same, by rw [List.length_append, hlen]; rfl, fun j p e => ?_⟩
      have ne : ∀ (p : Addr) (u v : V), upd G2 t (.tup [V.int (l : Int), .int (i : Int)]) p = some (.tup [u, v]) → upd (upd G2 t (.tup [V.int (l : Int), .int (i : Int)])) D (.lst (ps.map V.ref ++ [V.ref t])) p = some (.tup [u, v]) := fun p u v e => by
        rw [upd_ne (ne_of e hps3 (fun z => nomatch z))]; exact e
      rw [List.getElem?_append] at e
      split at e
      · obtain ⟨l', h1, h2⟩ := hpT j p e
        exact ⟨l', h1, ne _ _ _ (st _ _ h2)⟩
      · rename_i c
        have j0 : j - ps.length = 0 := by
          have := (List.getElem?_eq_some_iff.mp e).1
          simp at this; omega
        rw [j0] at e
        obtain rfl := Option.some.inj e
        have ji : j = i := by omega
        subst ji
        exact ⟨l, hl, ne _ _ _ ht⟩
    · rintro D G1 hD ⟨sm, ps, hps, hlen, hp⟩
      rw [ll] at hlen
      have kx : ∀ x ∈ ps.map V.ref, ∃ t, x = V.ref t ∧ G1 t = some (.tup [.int (key G1 x).1, .int (key G1 x).2]) := fun x hx => by
        obtain ⟨t, ht, rfl⟩ := List.mem_map.mp hx
        obtain ⟨j, hj, e⟩ := List.getElem_of_mem ht
        obtain ⟨l, _, h⟩ := hp j t (by rw [List.getElem?_eq_getElem hj, e])
        exact ⟨t, rfl, by rw [key_of h]; exact h⟩
      refine ⟨D, ps.map V.ref, key G1, rfl, SqL.of hps, kx, fun ys p srt stb np => ?_⟩
      have nqG : ∀ o, G1 q = some o → q ≠ p := fun o e => ne_of_none e np
      have eqG := sm _ _ eq1
      have s2 : Same H G1 := s1.trans sm
      have sp := same_new (o := .lst ys) np
      -- the pairs, in their order
      have back : ∀ y ∈ ys, ∃ (t : Addr) (l j : Nat), y = .ref t ∧ G1 t = some (.tup [.int (l : Int), .int (j : Int)]) ∧ key G1 y = ((l : Int), (j : Int)) := fun y hy => by
        obtain ⟨t, ht, rfl⟩ := List.mem_map.mp (stb.perm.mem_iff.mp hy)
        obtain ⟨j, hj, e⟩ := List.getElem_of_mem ht
        obtain ⟨l, _, h⟩ := hp j t (by rw [List.getElem?_eq_getElem hj, e])
        exact ⟨t, l, j, rfl, h, key_of h⟩
      obtain ⟨S, hS⟩ : ∃ S, S = ys.map fun y => nat2 (key G1 y) := ⟨_, rfl⟩
      have hperm : S.Perm (pr L) := by
        have h1 : S.Perm ((ps.map V.ref).map fun y => nat2 (key G1 y)) := by rw [hS]; exact stb.perm.map _
        have h2 : ((ps.map V.ref).map fun y => nat2 (key G1 y)) = pr L := by
          apply List.ext_getElem?
          intro j
          rw [List.map_map, List.getElem?_map, pr_at]
          by_cases c : j < L.length
          · have c2 : j < ps.length := by omega
            obtain ⟨l, h3, h4⟩ := hp j _ (List.getElem?_eq_getElem c2)
            rw [List.getElem?_eq_getElem c2, h3]
            show some (nat2 (key G1 (.ref ps[j]))) = some (l, j)
            rw [key_of h4]
            rfl
          · rw [List.getElem?_eq_none (by omega), List.getElem?_eq_none (by omega)]
            rfl
        rw [h2] at h1
        exact h1
      have hsort : S.Pairwise fun x y => ltB y x = false := by
        rw [hS]
        refine List.pairwise_map.mpr (List.Pairwise.imp_of_mem (fun {x y} hx hy h => ?_) srt)
        obtain ⟨t, l, j, rfl, _, k1⟩ := back x hx
        obtain ⟨t', l', j', rfl, _, k2⟩ := back y hy
        cases c : ltB (nat2 (key G1 (.ref t'))) (nat2 (key G1 (.ref t))) with
        | false => rfl
        | true =>
          have h : SrtO.lexB (key G1 (.ref t')) (key G1 (.ref t)) = false := h
          rw [k1, k2] at c
          rw [k1, k2] at h
          have c2 := ltB_iff.mp c
          have : SrtO.lexB ((l' : Int), (j' : Int)) ((l : Int), (j : Int)) = true := SrtO.lexB_iff.mpr (by
            have c3 : l' < l ∨ l' = l ∧ j' < j := c2
            show (l' : Int) < l ∨ (l' : Int) = l ∧ (j' : Int) < j
            omega)
          rw [h] at this; cases this
      have hst := strict hperm hsort
      have lS : S.length = ys.length := by rw [hS, List.length_map]
      refine ⟨p, rfl, ⟨ys, SqL.of upd_same⟩, ?_⟩
      have e3 : upd G1 p (.lst ys) p = some (.lst ys) := upd_same
      have s3 := s2.trans sp
      have eq3 := sp _ _ eqG
      have tup3 : ∀ t u v, G1 t = some (.tup [u, v]) → upd G1 p (.lst ys) t = some (.tup [u, v]) := fun t u v e => sp _ _ e
      have qp := nqG _ eqG
      generalize upd G1 p (.lst ys) = G3 at e3 s3 eq3 tup3 ⊢
      refine for_list (K := K) (a := p) (xs := ys) (fun i σ G => (∃ (num ah : Nat) (z4 z5 z6 z7 : Option V) (vs : List V), σ = [some (.ref a), some (.ref q), some (.int (num : Int)), some (.int (ah : Int)), z4, z5, z6, z7] ∧ num = acc (S.take i) ah ∧ (∀ r ∈ S.take i, r.1 ≤ ah) ∧ (∀ r ∈ S.drop i, ah ≤ r.1) ∧ G q = some (.lst vs) ∧ vs.length = L.length ∧
        ∀ r ∈ S.take i, vs[r.2]? = some (.str (txt (word (pr L) r)))) ∧ But q G3 G) ⟨⟨0, 0, none, none, none, none, _, rfl, rfl, fun r h => (by cases h), fun r h => Nat.zero_le _, eq3, List.length_replicate, fun r h => (by cases h)⟩, But.of (Same.refl G3)⟩ (fun i σ G _ h => SqL.of (h.2 _ _ qp.symm e3)) ?_ ?_
      · rintro i y σ G4 hy ⟨⟨num, ah, z4, z5, z6, z7, vs, rfl, hnum, hlo, hhi, hq, hvs, hw⟩, bt⟩
        obtain ⟨t, l, j, rfl, ht, hk⟩ := back y (List.mem_of_getElem? hy)
        have hSi : S[i]? = some (l, j) := by rw [hS, List.getElem?_map, hy]; show some (nat2 (key G1 (.ref t))) = _; rw [hk]; rfl
        obtain ⟨c1, c2, c3⟩ := cut hSi
        have hin : (l, j) ∈ pr L := hperm.mem_iff.mp (List.mem_of_getElem? hSi)
        have hLj : L[j]? = some l := pr_mem hin
        have hjl : j < L.length := (List.getElem?_eq_some_iff.mp hLj).1
        have rl := G.at hLj
        have hal : ah ≤ l := hhi (l, j) (by rw [c3]; exact List.mem_cons_self ..)
        have hsh : num * 2 ^ (l - ah) = acc (S.take i) l := by rw [hnum]; exact acc_shift hlo hal
        have hnl : acc (S.take i) l = KR.num (pr L) (l, j) := by
          rw [← num_perm hperm]
          exact (num_sorted (p := (l, j)) hst c1).symm
        have hlt : acc (S.take i) l < 2 ^ l := by rw [hnl]; exact num_lt G.kr hin
        have h25 : 2 ^ l ≤ 2 ^ 25 := Nat.pow_le_pow_right (by decide) rl.2
        have hsm : num ≤ acc (S.take i) l := by rw [← hsh]; exact Nat.le_mul_of_pos_right _ (Nat.pow_pos (by decide))
        have n25 : num < 2 ^ 25 := by omega
        have ht4 : G4 t = some (.tup [.int (l : Int), .int (j : Int)]) := bt _ _ (ne_of (tup3 _ _ _ ht) eq3 (fun z => nomatch z)) (tup3 _ _ _ ht)
        have esh : (num : Int) * 2 ^ ((l : Int) - (ah : Int)).toNat = ((acc (S.take i) l : Nat) : Int) := by
          rw [← hsh, show ((l : Int) - (ah : Int)).toNat = l - ah by omega]
          norm_cast
        refine ⟨t, _, rfl, SqT.of ht4, rfl, _, _, rfl, _, _, rfl, rfl, ?_⟩
        refine ⟨_, rfl, _, rfl, _, rfl, _, _, rfl, rfl, _, _, rfl, rfl, ⟨by omega, by omega, by rw [Int.natAbs_natCast]; omega⟩, ?_⟩
        refine ⟨_, rfl, acc (S.take i) l, congrArg V.int esh, ?_, ?_⟩
        · exact Nat.le_trans (bin_len rl.1 hlt) (by rw [sizeLine_eq]; omega)
        refine ⟨⟨_, rfl⟩, _, rfl, _, _, rfl, rfl, pad25 rl.2, ?_⟩
        rw [zfill_bin rl.1 hlt]
        have ej : ixN vs.length ((j : Nat) : Int) = some j := by
          unfold ixN
          rw [if_pos (by omega), if_pos (by omega), Int.toNat_natCast]
        refine ⟨_, rfl, _, rfl, q, vs, _, j, rfl, rfl, hq, ej, ?_⟩
        refine ⟨_, rfl, _, _, rfl, rfl, _, rfl, ?_⟩
        have en : (((acc (S.take i) l + 1 : Nat)) : Int) = (num : Int) * 2 ^ ((l : Int) - (ah : Int)).toNat + 1 := by rw [esh]; rfl
        refine ⟨⟨acc (S.take i) l + 1, l, some (.int (l : Int)), some (.int (j : Int)), z6, z7, vs.set j (.str (txt (bitsL l (acc (S.take i) l)))), ?_, ?_, ?_, ?_, upd_same, ?_, ?_⟩, But.upd bt⟩
        · rw [en]; rfl
        · rw [c2]; exact (acc_snoc (S.take i) (l, j)).symm
        · intro r hr
          rw [c2] at hr
          rcases List.mem_append.mp hr with hr | hr
          · exact Nat.le_trans (hlo r hr) hal
          · rw [List.mem_singleton.mp hr]; exact Nat.le_refl _
        · intro r hr
          have h0 := hst
          rw [c1, List.pairwise_append] at h0
          have h1 := (List.pairwise_cons.mp h0.2.1).1 r hr
          have := ltB_iff.mp h1
          show l ≤ r.1
          have h2 : l < r.1 ∨ l = r.1 ∧ j < r.2 := this
          omega
        · rw [List.length_set]; exact hvs
        · intro r hr
          rw [c2] at hr
          rcases List.mem_append.mp hr with hr | hr
          · have h0 := hst
            rw [c1, List.pairwise_append] at h0
            have h1 := ltB_iff.mp (h0.2.2 r hr (l, j) (List.mem_cons_self ..))
            have hrp : r ∈ pr L := hperm.mem_iff.mp (by rw [c1]; exact List.mem_append_left _ hr)
            have hne : j ≠ r.2 := fun e => by
              have h2 := pr_mem hrp
              rw [← e, hLj] at h2
              have h3 : l = r.1 := Option.some.inj h2
              have h4 : r.1 < l ∨ r.1 = l ∧ r.2 < j := h1
              omega
            rw [List.getElem?_set_ne hne]
            exact hw r hr
          · rw [List.mem_singleton.mp hr, List.getElem?_set_self (by omega), hnl]
            rfl
      · rintro σ G4 ⟨⟨num, ah, z4, z5, z6, z7, vs, rfl, hnum, hlo, hhi, hq, hvs, hw⟩, bt⟩
        have ev : vs = txs (cw L) := by
          apply List.ext_getElem?
          intro j
          by_cases c : j < L.length
          · have hl := List.getElem?_eq_getElem c
            have hin : (L[j], j) ∈ S.take ys.length := by
              rw [← lS, List.take_length]
              refine hperm.mem_iff.mpr (List.mem_of_getElem? (i := j) ?_)
              rw [pr_at, hl]; rfl
            rw [hw _ hin, txs_at (cw_at hl)]
          · rw [List.getElem?_eq_none (by omega), List.getElem?_eq_none (by rw [txs_len, cw_len]; omega)]
        rw [ev] at hq
        refine ⟨_, rfl, kq q G4 nqH (fun b o e => bt b o (ne_of_none e nqH) (s3 b o e)) hq⟩
end
theorem sum_set : ∀ (L : List Nat) (i x : Nat) (h : i < L.length), (L.set i x).sum + L[i] = L.sum + x
  | y :: L, 0, x, _ => by simp; omega
  | y :: L, i + 1, x, h => by
    have := sum_set L i x (by simpa using h)
    simp at this ⊢
    omega
def wsum (L : List Nat) : Nat := (L.map fun l => 2 ^ (25 - l)).sum
theorem wsum_step {L : List Nat} {i : Nat} (h : i < L.length) (hl : L[i] ≤ 24) : wsum (L.set i (L[i] + 1) ++ [L[i] + 1]) = wsum L := by
  unfold wsum
  rw [List.map_append, List.sum_append, List.map_set]
  have h' : i < (L.map fun l => 2 ^ (25 - l)).length := by rw [List.length_map]; exact h
  have := sum_set (L.map fun l => 2 ^ (25 - l)) i (2 ^ (25 - (L[i] + 1))) h'
  rw [List.getElem_map] at this
  have e : 2 ^ (25 - L[i]) = 2 ^ (25 - (L[i] + 1)) + 2 ^ (25 - (L[i] + 1)) := by
    rw [show 25 - L[i] = (25 - (L[i] + 1)) + 1 by omega, Nat.pow_succ]; omega
  simp only [List.map_cons, List.map_nil, List.sum_cons, List.sum_nil] at this ⊢
  omega
theorem good_of {L : List Nat} (h1 : 2 ≤ L.length) (h2 : L.length ≤ 26) (hs : wsum L = 2 ^ 25) (hb : ∀ l ∈ L, 1 ≤ l ∧ l ≤ 25) : Good L where
  lo := h1
  hi := h2
  kr := ⟨by rw [pr_fst L fun l => 2 ^ (25 - l)]; exact hs, fun q hq => hb q.1 (List.mem_of_getElem? (pr_mem hq))⟩
def spLof : Sp := fun vs H Q _ => ∃ (d lc : Addr) (n k : Nat), vs = [.ref d, .int (n : Int)] ∧ Pen H d lc k ∧ 2 ≤ n ∧ n ≤ 26 ∧ k ≤ 900000 ∧
  ∀ a H' k' L, k' ≤ k + 24 → Pen H' d lc k' → But d H H' → H a = none → H' a = some (.lst (Ls L)) → Good L → L.length = n → Q (.ref a) H'
section
variable {P : Program} {w : World} {K : PySem.W.Frag} {mg : Str → Option Value} {base : Heap} {A : Ad}
theorem sc_lof : FnScope ["_law_pen", "_law_many", "_law_found", "_law_k", "_law_at"] ["_law_pen", "_law_many"] (defScope s_lof) := ⟨rfl, rfl, rfl, by decide +kernel, rfl, by decide +kernel, by decide +kernel⟩
theorem ok_lof (T : Txt K mg A) : FnOk P w K mg base CX0 2 A.a_lof A.d_lof ["_law_pen", "_law_many"] spLof := by
  have G_draw := ok_draw (P := P) (w := w) (base := base) T
  refine T.F_lof.ok sc_lof (fun vs H Q E h => ?_) (fun cdv Ar outer s H vs Q E hr h => ?_)
  · obtain ⟨d, lc, n, k, rfl, _⟩ := h; rfl
  · obtain ⟨d, lc, n, k, rfl, pen, n2, n26, hk, kq⟩ := h
    refine ⟨_, (pss_cons (ps_set (i := 2) sc_lof.nd rfl (Or.inl rfl) (pe_lst (pa_cons pe_int (pa_cons pe_int pa_nil))))
      (pss_cons (ps_for PassesOwn.never rfl (pi_range1 (by rfl) T.z_range (pa_cons (pe_op op_sub (pv 1) pe_int) pa_nil)) (pg_name (i := 3) sc_lof.nd rfl (Or.inl rfl))
         (pss_cons (ps_set (i := 4) sc_lof.nd rfl (Or.inl rfl) (pe_call G_draw (hr.mono (by decide)) (by rfl) T.g_draw T.F_draw.kp T.b_draw .nil pass0 (pa_cons (pv 0) (pa_cons (pe_callB call_len_seq (by rfl) T.z_len PySem.boot_len (pa_cons (pv 2) pa_nil)) pa_nil))))
         (pss_cons (ps_asg (pe_op op_add (pe_ix ix_list (pv 2) (pv 4) (fun _ _ => rfl)) pe_int) (pg_sub (pv 2) (pv 4) set_list))
         (pss_one (ps_expr (pe_bm PySem.F.plainAttrs_list PySem.F.slot_list_append PySem.F.type_list_append mt_append (pv 2) (pa_cons (pe_ix ix_list (pv 2) (pv 4) (fun _ _ => rfl)) pa_nil)))))))
      (pss_one (ps_ret (pv 2))))), ?_⟩
    refine ⟨(by show 2 ≤ sizeLine; decide), fun p np => ?_⟩
    have s1 := same_new (o := .lst [V.int 1, .int 1]) np
    have e1 : upd H p (.lst [V.int 1, .int 1]) p = some (.lst (Ls [1, 1])) := upd_same
    have pen1 := pen.same s1
    obtain ⟨xc, hxc⟩ := pen.cells
    obtain ⟨xd, hxd⟩ := pen.some
    have dp : d ≠ p := ne_of_none hxd np
    have lp : lc ≠ p := ne_of_none hxc np
    generalize upd H p (.lst [V.int 1, .int 1]) = H1 at s1 e1 pen1 ⊢
    refine ⟨_, rfl, _, _, rfl, rfl, _, rfl, by omega, by omega, ?_⟩
    refine for_range (lo := 0) (n := ((n : Int) - 2).toNat) (fun j σ G => ∃ (L : List Nat) (k' : Nat) (z4 z5 : Option V), σ = [some (.ref d), some (.int (n : Int)), some (.ref p), z4, z5] ∧ k' ≤ k + j ∧ Pen G d lc k' ∧ But d H G ∧ G p = some (.lst (Ls L)) ∧ L.length = j + 2 ∧ (∀ l ∈ L, 1 ≤ l ∧ l ≤ j + 1) ∧ wsum L = 2 ^ 25)
      ⟨[1, 1], k, _, _, rfl, Nat.le_refl _, pen1, But.of s1, e1, rfl, fun l hl => by simp at hl; omega, by decide⟩ ?_ ?_
    · rintro j σ G1 hj ⟨L, k', z4, z5, rfl, hk', pn, bt, hp, len, hb, hs⟩
      have ll := Ls_len L
      refine ⟨_, rfl, _, rfl, p, _, rfl, .inl (SqL.of hp), d, lc, _, k', rfl, pn, by omega, by omega, by omega, fun v G2 k2 v0 v1 kk pn2 bt2 => ?_⟩
      obtain ⟨x0, pe⟩ := pn.some
      have hp2 : G2 p = some (.lst (Ls L)) := bt2 _ _ (ne_of hp pe (fun z => nomatch z)) hp
      obtain ⟨i, rfl⟩ : ∃ i : Nat, v = (i : Int) := ⟨v.toNat, (Int.toNat_of_nonneg v0).symm⟩
      have il : i < L.length := by omega
      have hLi := List.getElem?_eq_getElem il
      have rb := hb _ (List.getElem_mem il)
      have eix : ixN (Ls L).length ((i : Nat) : Int) = some i := by
        unfold ixN
        rw [if_pos (by omega), if_pos (by omega), Int.toNat_natCast]
      refine ⟨_, rfl, _, rfl, p, _, _, _, rfl, rfl, SqL.of hp2, at_of rfl (Ls_at hLi), _, _, rfl, rfl, ?_⟩
      refine ⟨_, rfl, _, rfl, p, _, _, i, rfl, rfl, hp2, eix, ?_⟩
      have es : (Ls L).set i (.int ((L[i] : Nat) + 1 : Int)) = Ls (L.set i (L[i] + 1)) := by
        unfold Ls
        rw [List.map_set, List.map_set]
        rfl
      rw [es]
      have e3 : upd G2 p (.lst (Ls (L.set i (L[i] + 1)))) p = some (.lst (Ls (L.set i (L[i] + 1)))) := upd_same
      have hL2 : (L.set i (L[i] + 1))[i]? = some (L[i] + 1) := List.getElem?_set_self il
      refine ⟨_, rfl, .inl ⟨rfl, _, SqL.of e3⟩, _, rfl, _, rfl, p, _, _, _, rfl, rfl, SqL.of e3, at_of rfl (Ls_at hL2), p, _, _, rfl, rfl, e3, by rw [Ls_len, List.length_set, sizeLine_eq]; omega, ?_⟩
      refine ⟨L.set i (L[i] + 1) ++ [L[i] + 1], k2, some (.int (0 + (j : Int))), some (.int (i : Int)), rfl, by omega, (pn2.upd dp lp).upd dp lp, fun b o nb e => ?_, ?_, ?_, ?_, ?_⟩
      · have nbp : b ≠ p := ne_of_none e np
        rw [upd_ne nbp, upd_ne nbp]
        exact bt2 _ _ nb (bt _ _ nb e)
      · rw [upd_same]
        unfold Ls
        rw [List.map_append, List.map_append]
        rfl
      · rw [List.length_append, List.length_set, len]; rfl
      · intro l hl
        rcases List.mem_append.mp hl with hl | hl
        · rcases List.mem_or_eq_of_mem_set hl with hl | hl
          · have := hb l hl; omega
          · omega
        · have := List.mem_singleton.mp hl; omega
      · rw [wsum_step il (by omega)]; exact hs
    · rintro σ G1 ⟨L, k', z4, z5, rfl, hk', pn, bt, hp, len, hb, hs⟩
      have e : ((n : Int) - 2).toNat = n - 2 := by omega
      rw [e] at hk' len hb
      refine ⟨_, rfl, kq p G1 k' L (by omega) pn bt np hp (good_of (by omega) (by omega) hs fun l hl => ?_) (by omega)⟩
      have := hb l hl
      omega
end
theorem lex2 (a b c d : Nat) : HT.lexLt [(a : Int), (b : Int)] [(c : Int), (d : Int)] = ltB (a, b) (c, d) := by
  unfold ltB HT.lexLt
  by_cases e : a = c
  · subst e
    rw [if_pos rfl]
    unfold HT.lexLt
    by_cases f : b = d
    · subst f
      rw [if_pos rfl]
      unfold HT.lexLt
      simp
    · rw [if_neg (by omega)]
      simp
  · rw [if_neg (by omega)]
    have : ((a : Int) < c) = (a < c) := by simp
    simp [e]
theorem sumF_take {P : List Pr} {c : Pr → Bool} {f : Pr → Nat} {j : Nat} {r : Pr} (h : P[j]? = some r) : sumF (P.take (j + 1)) c f = sumF (P.take j) c f + if c r = true then f r else 0 := by
  unfold sumF
  rw [List.take_succ, h]
  simp only [Option.toList, List.filter_append, List.map_append, List.sum_append]
  congr 1
  by_cases e : c r = true
  · simp [e]
  · simp [e]
theorem digit (n : Nat) : (toString ((n : Int) % 2) : String) = toString ((n : Int) % 2) := rfl
theorem str_bit (n : Nat) : Str.ofString (toString ((n : Int) % 2)) = txt [48 + n % 2] := by
  rcases Nat.mod_two_eq_zero_or_one n with e | e
  · have : (n : Int) % 2 = 0 := by omega
    rw [this, e]; rfl
  · have : (n : Int) % 2 = 1 := by omega
    rw [this, e]; rfl
theorem txt_app (a b : List Nat) : txt a ++ txt b = txt (a ++ b) := by
  refine txt_of ?_
  show ((txt a).cps ++ (txt b).cps).toList = _
  simp [txt]
def spWords (K : PySem.W.Frag) : Sp := fun vs H Q _ => ∃ (a : Addr) (L : List Nat), vs = [.ref a] ∧ SqL K H a (Ls L) ∧ Good L ∧ ∀ p H', Same H H' → SqT K H' p (txs (cw L)) → Q (.ref p) H'
section
variable {P : Program} {w : World} {K : PySem.W.Frag} {mg : Str → Option Value} {base : Heap} {A : Ad}
theorem sc_words : FnScope ["_law_lengths", "_law_found", "_law_sign", "_law_size", "_law_number", "_law_other", "_law_bits", "_law_turn"] ["_law_lengths"] (defScope s_words) := ⟨rfl, rfl, rfl, by decide +kernel, rfl, by decide +kernel, by decide +kernel⟩
theorem ok_words (T : Txt K mg A) : FnOk P w K mg base CX0 2 A.a_words A.d_words ["_law_lengths"] (spWords K) := by
  have G_two := ok_two (P := P) (w := w) (base := base) T
  refine T.F_words.ok sc_words (fun vs H Q E h => ?_) (fun cdv Ar outer s H vs Q E hr h => ?_)
  · obtain ⟨a, L, rfl, _⟩ := h; rfl
  · obtain ⟨a, L, rfl, ha, G, kq⟩ := h
    have ll := Ls_len L
    have l26 := G.hi
    refine ⟨_, (pss_cons (ps_set (i := 1) sc_words.nd rfl (Or.inl rfl) (pe_lst pa_nil))
      (pss_cons (ps_for PassesOwn.never rfl (pi_range1 (by rfl) T.z_range (pa_cons (pe_callB call_len_seq (by rfl) T.z_len PySem.boot_len (pa_cons (pv 0) pa_nil)) pa_nil)) (pg_name (i := 2) sc_words.nd rfl (Or.inl rfl))
         (pss_cons (ps_par (i := 3) (j := 4) (by rfl) sc_words.nd rfl rfl (by decide) rfl rfl (pa_cons (pe_ix ix_list (pv 0) (pv 2) (fun _ _ => rfl)) (pa_cons pe_int pa_nil)) (by rfl))
         (pss_cons (ps_for PassesOwn.never rfl (pi_range1 (by rfl) T.z_range (pa_cons (pe_callB call_len_seq (by rfl) T.z_len PySem.boot_len (pa_cons (pv 0) pa_nil)) pa_nil)) (pg_name (i := 5) sc_words.nd rfl (Or.inl rfl))
            (pss_one (ps_if (pt_cmpR (op_ltT hr.units0) (pe_tup (pa_cons (pe_ix ix_list (pv 0) (pv 5) (fun _ _ => rfl)) (pa_cons (pv 5) pa_nil))) (pe_tup (pa_cons (pv 3) (pa_cons (pv 2) pa_nil))) (nomark _)) (pss_one (ps_set (i := 4) sc_words.nd rfl (Or.inl rfl) (pe_op op_add (pv 4) (pe_call G_two (hr.mono (by decide)) (by rfl) T.g_two T.F_two.kp T.b_two .nil pass0 (pa_cons (pe_op op_sub (pv 3) (pe_ix ix_list (pv 0) (pv 5) (fun _ _ => rfl))) pa_nil)))))
              pss_nil)))
         (pss_cons (ps_set (i := 6) sc_words.nd rfl (Or.inl rfl) pe_str)
         (pss_cons (ps_for PassesOwn.never rfl (pi_range1 (by rfl) T.z_range (pa_cons (pv 3) pa_nil)) (pg_name (i := 7) sc_words.nd rfl (Or.inl rfl))
            (pss_one (ps_par (i := 6) (j := 4) (by rfl) sc_words.nd rfl rfl (by decide) rfl rfl (pa_cons (pe_op op_add_str (pe_callTy call_str_int (by rfl) T.z_str (by decide +kernel) (pa_cons (pe_op op_mod (pe_callTy call_int1 (by rfl) T.z_int (by decide +kernel) (pa_cons (pv 4) pa_nil)) pe_int) pa_nil)) (pv 6)) (pa_cons (pe_op op_fdiv (pv 4) pe_int) pa_nil)) (by rfl))))
         (pss_one (ps_expr (pe_bm PySem.F.plainAttrs_list PySem.F.slot_list_append PySem.F.type_list_append mt_append (pv 1) (pa_cons (pv 6) pa_nil)))))))))
      (pss_one (ps_ret (pe_callTy call_tupE (by rfl) T.z_tuple (by decide +kernel) (pa_cons (pv 1) pa_nil)))))), ?_⟩
    refine ⟨Nat.zero_le _, fun p np => ?_⟩
    have s1 := same_new (o := .lst []) np
    have e1 : upd H p (.lst []) p = some (.lst []) := upd_same
    generalize upd H p (.lst []) = H1 at s1 e1 ⊢
    have keepL : ∀ G1 : Hp, But p H G1 → SqL K G1 a (Ls L) := fun G1 bt => (show Same H G1 from fun b o e => bt b o (ne_of_none e np) e).seq ha
    refine ⟨_, rfl, a, _, rfl, .inl (s1.seq ha), _, rfl, by omega, by omega, ?_⟩
    refine for_range (lo := 0) (n := (((Ls L).length : Nat) : Int).toNat) (fun j σ G1 => (∃ z2 z3 z4 z5 z6 z7, σ = [some (.ref a), some (.ref p), z2, z3, z4, z5, z6, z7]) ∧ But p H G1 ∧ G1 p = some (.lst (txs ((cw L).take j)))) ⟨⟨_, _, _, _, _, _, rfl⟩, But.of s1, e1⟩ ?_ ?_
    · rintro j σ G1 hj ⟨⟨z2, z3, z4, z5, z6, z7, rfl⟩, bt, hp⟩
      have jl : j < L.length := by omega
      have hLj := List.getElem?_eq_getElem jl
      have rl := G.at hLj
      have e0 : (0 : Int) + (j : Int) = (j : Int) := Int.zero_add _
      have hcw := cw_at hLj
      have hin : (L[j], j) ∈ pr L := List.mem_of_getElem? (i := j) (by rw [pr_at, hLj]; rfl)
      refine ⟨_, rfl, _, rfl, a, _, _, _, rfl, rfl, keepL _ bt, at_of e0 (Ls_at hLj), _, _, rfl, ?_⟩
      refine ⟨_, rfl, a, _, rfl, .inl (keepL _ bt), _, rfl, by omega, by omega, ?_⟩
      refine for_range (lo := 0) (n := (((Ls L).length : Nat) : Int).toNat) (fun i σ G2 => (∃ z5 z6 z7, σ = [some (.ref a), some (.ref p), some (.int (0 + (j : Int))), some (.int ((L[j] : Nat) : Int)), some (.int ((sumF ((pr L).take i) (fun q => ltB q (L[j], j)) (fun q => 2 ^ (L[j] - q.1)) : Nat) : Int)), z5, z6, z7]) ∧ But p H G2 ∧ G2 p = some (.lst (txs ((cw L).take j)))) ⟨⟨_, _, _, rfl⟩, bt, hp⟩ ?_ ?_
      · rintro i σ G2 hi ⟨⟨z5, z6, z7, rfl⟩, bt2, hp2⟩
        have il : i < L.length := by omega
        have hLi := List.getElem?_eq_getElem il
        have ri := G.at hLi
        have e0i : (0 : Int) + (i : Int) = (i : Int) := Int.zero_add _
        have hpi : (pr L)[i]? = some (L[i], i) := by rw [pr_at, hLi]; rfl
        have st := sumF_take (c := fun q => ltB q (L[j], j)) (f := fun q => 2 ^ (L[j] - q.1)) hpi
        refine ⟨_, rfl, _, rfl, a, _, _, _, rfl, rfl, keepL _ bt2, at_of e0i (Ls_at hLi), _, rfl, (by show 2 ≤ sizeLine; decide), fun t nt => ?_⟩
        have b3 : But p H (upd G2 t (.tup [.int ((L[i] : Nat) : Int), .int (0 + (i : Int))])) := But.trans bt2 (But.of (same_new nt))
        have t3 : upd G2 t (.tup [.int ((L[i] : Nat) : Int), .int (0 + (i : Int))]) t = some (.tup [.int ((L[i] : Nat) : Int), .int (0 + (i : Int))]) := upd_same
        have p3 := same_new (o := .tup [V.int ((L[i] : Nat) : Int), .int (0 + (i : Int))]) nt _ _ hp2
        generalize upd G2 t (.tup [.int ((L[i] : Nat) : Int), .int (0 + (i : Int))]) = G3 at b3 t3 p3 ⊢
        refine ⟨_, rfl, _, rfl, (by show 2 ≤ sizeLine; decide), fun u nu => ?_⟩
        have su := same_new (o := .tup [V.int ((L[j] : Nat) : Int), .int (0 + (j : Int))]) nu
        have b4 := But.trans b3 (But.of su)
        have t4 := su _ _ t3
        have p4 := su _ _ p3
        have u4 : upd G3 u (.tup [.int ((L[j] : Nat) : Int), .int (0 + (j : Int))]) u = some (.tup [.int ((L[j] : Nat) : Int), .int (0 + (j : Int))]) := upd_same
        generalize upd G3 u (.tup [.int ((L[j] : Nat) : Int), .int (0 + (j : Int))]) = G4 at b4 t4 p4 u4 ⊢
        refine ⟨t, u, [((L[i] : Nat) : Int), 0 + (i : Int)], [((L[j] : Nat) : Int), 0 + (j : Int)], rfl, rfl, SqT.of t4, SqT.of u4, _, rfl, ?_⟩
        rw [e0i, e0, lex2]
        cases c : ltB (L[i], i) (L[j], j) with
        | false =>
          refine iteF ⟨⟨some (.int (i : Int)), z6, z7, ?_⟩, b4, p4⟩
          rw [st, c]
          rfl
        | true =>
          have cl := ltB_iff.mp c
          have cl : L[i] < L[j] ∨ L[i] = L[j] ∧ i < j := cl
          have sub : ((L[j] : Nat) : Int) - ((L[i] : Nat) : Int) = ((L[j] - L[i] : Nat) : Int) := by omega
          refine iteT ⟨_, rfl, _, rfl, _, rfl, _, rfl, a, _, _, _, rfl, rfl, keepL _ b4, at_of rfl (Ls_at hLi), _, _, rfl, rfl, L[j] - L[i], by rw [← sub]; rfl, by omega, _, _, rfl, rfl, ⟨some (.int (i : Int)), z6, z7, ?_⟩, b4, p4⟩
          rw [st, c]
          rfl
      · rintro σ G2 ⟨⟨z5, z6, z7, rfl⟩, bt2, hp2⟩
        have en : (((Ls L).length : Nat) : Int).toNat = (pr L).length := by rw [pr_len]; omega
        rw [en, List.take_length]
        have hN : (sumF (pr L) (fun q => ltB q (L[j], j)) fun q => 2 ^ (L[j] - q.1)) = KR.num (pr L) (L[j], j) := rfl
        rw [hN]
        refine ⟨_, rfl, _, rfl, by omega, by omega, ?_⟩
        refine for_range (lo := 0) (n := (((L[j] : Nat) : Int)).toNat) (fun i σ G3 => (∃ (m : Nat) (tl : List Nat) (z5 z7 : Option V), σ = [some (.ref a), some (.ref p), some (.int (0 + (j : Int))), some (.int ((L[j] : Nat) : Int)), some (.int (m : Int)), z5, some (.str (txt tl)), z7] ∧ tl.length = i ∧ bitsL L[j] (KR.num (pr L) (L[j], j)) = bitsL (L[j] - i) m ++ tl) ∧ G3 = G2) ⟨⟨KR.num (pr L) (L[j], j), [], z5, z7, rfl, rfl, by simp⟩, rfl⟩ ?_ ?_
        · rintro i σ G3 hi ⟨⟨m, tl, z5', z7', rfl, htl, hb⟩, rfl⟩
          have il : i < L[j] := by omega
          obtain ⟨r, hr'⟩ : ∃ r, L[j] - i = r + 1 := ⟨L[j] - i - 1, by omega⟩
          refine ⟨_, rfl, .inl ⟨_, rfl, _, _, rfl, rfl, (by decide : (0 : Int) < 2), ?_⟩⟩
          have lg : ((m : Int) % 2).natAbs.log2 < 1920 := by
            have : (m : Int) % 2 = 0 ∨ (m : Int) % 2 = 1 := by omega
            rcases this with e | e <;> rw [e] <;> decide
          refine ⟨_, rfl, lg, _, rfl, _, _, rfl, rfl, ?_, ?_⟩
          · rw [str_bit, txt_len, txt_len, sizeLine_eq, htl]
            show 1 + i ≤ _
            omega
          · rw [str_bit, txt_app]
            have ed : (m : Int) / 2 = ((m / 2 : Nat) : Int) := by omega
            refine ⟨_, rfl, _, _, rfl, rfl, ⟨by decide, by decide⟩, _, _, rfl, ⟨m / 2, [48 + m % 2] ++ tl, z5', some (.int (0 + (i : Int))), ?_, ?_, ?_⟩, rfl⟩
            · rw [← ed]; rfl
            · rw [List.length_append, htl]; show 1 + i = i + 1; omega
            · rw [hb, hr', show L[j] - (i + 1) = r by omega]
              show (bitsL r (m / 2) ++ [48 + m % 2]) ++ tl = _
              rw [List.append_assoc]
        · rintro σ G3 ⟨⟨m, tl, z5', z7', rfl, htl, hb⟩, rfl⟩
          have e2 : L[j] - (((L[j] : Nat) : Int)).toNat = 0 := by omega
          rw [e2] at hb
          have hw : txt tl = txt (word (pr L) (L[j], j)) := by
            unfold word
            rw [hb]; rfl
          rw [hw]
          refine ⟨_, rfl, .inl ⟨rfl, _, SqL.of hp2⟩, _, rfl, p, _, _, rfl, rfl, hp2, ?_, ⟨_, _, _, _, _, _, rfl⟩, But.trans bt2 (But.upd (fun _ _ _ e => e)), ?_⟩
          · rw [txs_len, List.length_take, cw_len, sizeLine_eq]; omega
          · rw [upd_same, List.take_succ, hcw]
            unfold txs
            rw [List.map_append]
            rfl
    · rintro σ G1 ⟨⟨z2, z3, z4, z5, z6, z7, rfl⟩, bt, hp⟩
      have e : (((Ls L).length : Nat) : Int).toNat = (cw L).length := by rw [cw_len]; omega
      rw [e, List.take_length] at hp
      exact ⟨_, rfl, p, _, rfl, .inl (SqL.of hp), fun q G2 s2 hq => kq q G2 (fun b o e => s2 b o (bt b o (ne_of_none e np) e)) hq⟩
end
end Z

set_option Elab.async false
set_option linter.all false
set_option maxRecDepth 100000
set_option maxHeartbeats 8000000
/-! Code is made, or refused -/
namespace Z
open PySem L2 XV KR
theorem Ls_eq (L : List Nat) : (L.map fun (l : Nat) => V.int (l : Int)) = Ls L := by unfold Ls; rw [List.map_map]; rfl
theorem nV_eq (L : List Nat) : L.map nV = Ls L := Ls_eq L
theorem SqE.but {K : PySem.W.Frag} {H G : Hp} {x C dx p : Addr} {fs : List (Str × V)} {xs : List V} (hx : H x = some (.ins C dx fs)) (bt : But x H G) (h : SqE K H p xs) : SqE K G p xs := by
  have tb : SqT K H p xs → SqT K G p xs := fun h => by
    rcases h with (h | ⟨o, h⟩) | h
    · exact .inl (.inl (bt _ _ (ne_of h hx (fun z => nomatch z)) h))
    · exact .inl (.inr ⟨o, bt _ _ (ne_of h hx (fun z => nomatch z)) h⟩)
    · exact .inr h
  rcases h with h | h
  · rcases h with (h | ⟨o, h⟩) | h
    · exact .inl (.inl (.inl (bt _ _ (ne_of h hx (fun z => nomatch z)) h)))
    · exact .inl (.inl (.inr ⟨o, bt _ _ (ne_of h hx (fun z => nomatch z)) h⟩))
    · exact .inl (.inr h)
  · exact .inr (tb h)
theorem put1 (u : V) : putF "words" u [] = [(("words" : Str), u)] := by kernel_rfl
theorem put2 (u v : V) : putF "lengths" v [(("words" : Str), u)] = [(("words" : Str), u), ("lengths", v)] := by kernel_rfl
theorem put3 (u v z : V) : putF "size" z [(("words" : Str), u), ("lengths", v)] = [(("words" : Str), u), ("lengths", v), ("size", z)] := by kernel_rfl
theorem put4 (u v z y : V) : putF "longest" y [(("words" : Str), u), ("lengths", v), ("size", z)] = [(("words" : Str), u), ("lengths", v), ("size", z), ("longest", y)] := by kernel_rfl
/-- the words that a Code is given, or none -/
def Giv (K : PySem.W.Frag) (H : Hp) (v : V) (n : Nat) (g : Option (List V)) : Prop := match g with
  | none => v = .non
  | some ws => ∃ b, v = .ref b ∧ SqE K H b ws ∧ ws.length = n ∧ ∀ u ∈ ws, Odd K H u ∧ short u
/-- what Code(lengths, words) does, by what it is given -/
structure Outc (A : Ad) (H : Hp) (xs : List V) (g : Option (List V)) (fin : Prop) (E : XK) : Prop where
  many : ¬ (2 ≤ xs.length ∧ xs.length ≤ 26) → ∀ d G, Same H G → G d = some (.xd [("most", .int 26), ("many", .int ((xs.length : Nat) : Int)), ("what", .str "signs")]) → E (.ref A.c_TooMany) (some d) G
  len : 2 ≤ xs.length ∧ xs.length ≤ 26 → ∀ i : Nat, BadL xs i → ∀ d G, Same H G → G d = some (.xd [("index", .int (i : Int))]) → E (.ref A.c_BadLength) (some d) G
  full : 2 ≤ xs.length ∧ xs.length ≤ 26 → ∀ L : List Nat, xs = Ls L → (∀ l ∈ L, 1 ≤ l ∧ l ≤ 25) → (L.map wid).sum ≠ 2 ^ 25 → ∀ G, Same H G → E (.ref A.c_NotFull) none G
  non : 2 ≤ xs.length ∧ xs.length ≤ 26 → ∀ L : List Nat, xs = Ls L → (∀ l ∈ L, 1 ≤ l ∧ l ≤ 25) → (L.map wid).sum = 2 ^ 25 → g = none → fin
  word : 2 ≤ xs.length ∧ xs.length ≤ 26 → ∀ L : List Nat, xs = Ls L → (∀ l ∈ L, 1 ≤ l ∧ l ≤ 25) → (L.map wid).sum = 2 ^ 25 → ∀ ws, g = some ws → ∀ i : Nat, BadW ws L i → ∀ d G, Same H G → G d = some (.xd [("index", .int (i : Int))]) → E (.ref A.c_BadWord) (some d) G
  begs : 2 ≤ xs.length ∧ xs.length ≤ 26 → ∀ L : List Nat, xs = Ls L → (∀ l ∈ L, 1 ≤ l ∧ l ≤ 25) → (L.map wid).sum = 2 ^ 25 → ∀ ss : List Str, g = some (ss.map V.str) → AllW (ss.map V.str) L → ∀ i j : Nat, BegAt ss i j → ∀ d G, Same H G → G d = some (.xd [("other", .int (j : Int)), ("index", .int (i : Int))]) → E (.ref A.c_Begins) (some d) G
  free : 2 ≤ xs.length ∧ xs.length ≤ 26 → ∀ L : List Nat, xs = Ls L → (∀ l ∈ L, 1 ≤ l ∧ l ≤ 25) → (L.map wid).sum = 2 ^ 25 → ∀ ss : List Str, g = some (ss.map V.str) → AllW (ss.map V.str) L → Free ss → fin
def spInit (K : PySem.W.Frag) (A : Ad) : Sp := fun vs H Q E => ∃ (x dx a : Addr) (v : V) (xs : List V) (g : Option (List V)), vs = [.ref x, .ref a, v] ∧ H x = some (.ins A.c_Code dx []) ∧ SqE K H a xs ∧ (∀ u ∈ xs, Odd K H u) ∧ Giv K H v xs.length g ∧
  Outc A H xs g (∀ H' fs, But x H H' → H' x = some (.ins A.c_Code dx fs) → Q .non H') E
theorem good_L {L : List Nat} (h : 2 ≤ (Ls L).length ∧ (Ls L).length ≤ 26) (hL : ∀ l ∈ L, 1 ≤ l ∧ l ≤ 25) (hs : (L.map wid).sum = 2 ^ 25) : Good L := by
  rw [Ls_len] at h
  refine good_of h.1 h.2 ?_ hL
  have e := wid_sum L fun l hl => (hL l hl).2
  rw [hs] at e
  have : (2 : Int) ^ 25 = ((2 ^ 25 : Nat) : Int) := by norm_cast
  rw [this] at e
  exact (Int.ofNat.inj e).symm
section
variable {P : Program} {w : World} {K : PySem.W.Frag} {mg : Str → Option Value} {base : Heap} {A : Ad}
theorem sc_init : FnScope ["self", "lengths", "words"] ["self", "lengths", "words"] (defScope s_init) := ⟨rfl, rfl, rfl, by decide +kernel, rfl, by decide +kernel, by decide +kernel⟩
theorem ok_init (T : Txt K mg A) : FnOk P w K mg base (L2.CX P w) 6 A.a_init A.d_init ["self", "lengths", "words"] (spInit K A) := by
  have G_lens := ok_lens (P := P) (w := w) (base := base) T
  have G_canon := ok_canon (P := P) (w := w) (base := base) T
  have G_cwords := ok_cwords (P := P) (w := w) (base := base) T
  have Co := T.Co
  refine T.F_init.ok sc_init (fun vs H Q E h => ?_) (fun cdv Ar outer s H vs Q E hr h => ?_)
  · obtain ⟨x, dx, a, v, xs, g, rfl, _⟩ := h; rfl
  · obtain ⟨x, dx, a, v, xs, g, rfl, hx, ha, ho, hg, O⟩ := h
    refine ⟨_, (pss_cons (ps_expr (pe_call G_lens (hr.mono (by decide)) (by rfl) T.g_lens T.F_lens.kp T.b_lens .nil (passes_call (takes_of rfl rfl rfl rfl) (fun _ _ _ _ h => h)) (pa_cons (pv 1) pa_nil)))
      (pss_cons (ps_if (pt_cmpR op_isN (pv 2) pe_non (nomark _)) (pss_one (ps_fld (pv 0) (pe_callTy call_tupE (by rfl) T.z_tuple (by decide +kernel) (pa_cons (pe_call G_canon (hr.mono (by decide)) (by rfl) T.g_canon T.F_canon.kp T.b_canon .nil pass0 (pa_cons (pv 1) pa_nil)) pa_nil)) rfl))
        (pss_cons (ps_expr (pe_call G_cwords (hr.mono (by decide)) (by rfl) T.g_cwords T.F_cwords.kp T.b_cwords .nil (passes_call (takes_of rfl rfl rfl rfl) (fun _ _ _ _ h => h)) (pa_cons (pv 2) (pa_cons (pv 1) pa_nil))))
       (pss_one (ps_fld (pv 0) (pe_callTy call_tupE (by rfl) T.z_tuple (by decide +kernel) (pa_cons (pv 2) pa_nil)) rfl))))
      (pss_cons (ps_fld (pv 0) (pe_callTy call_tupE (by rfl) T.z_tuple (by decide +kernel) (pa_cons (pv 1) pa_nil)) rfl)
      (pss_cons (ps_fld (pv 0) (pe_callB call_len_seq (by rfl) T.z_len PySem.boot_len (pa_cons (pv 1) pa_nil)) rfl)
      (pss_one (ps_fld (pv 0) (pe_callB (cr_maxE rfl) (by rfl) T.z_max (by decide +kernel) (pa_cons (pv 1) pa_nil)) rfl)))))), ?_⟩
    refine ⟨_, rfl, a, xs, rfl, ha, ho, fun h26 L eL hL => ?_, O.many, O.len⟩
    rw [Ls_eq] at eL
    subst eL
    refine ⟨fun hsum H1 s1 => ?_, fun hsum => O.full h26 L rfl hL hsum⟩
    have G := good_L h26 hL hsum
    cases g with
    | none =>
      have fin := O.non h26 L rfl hL hsum rfl
      cases (show v = .non from hg)
      refine ⟨_, rfl, rfl, _, rfl, iteT ?_⟩
      refine ⟨_, rfl, a, L, rfl, ha.same s1, G, fun p H2' np s2 hp => ?_⟩
      refine ⟨p, _, rfl, .inl (SqL.of hp), fun pw H2 s2b hp2 => ?_⟩
      have hx2 := s2b _ _ (s2 _ _ (s1 _ _ hx))
      have b2 : But x H H2 := But.of ((s1.trans s2).trans s2b)
      refine ⟨_, rfl, x, _, dx, _, rfl, hx2, Co.cl, Co.n_words, (by show 0 < 1000; decide), ?_⟩
      rw [put1]
      have b3 : But x H (upd H2 x (.ins A.c_Code dx [("words", .ref pw)])) := But.upd b2
      have hx3 : upd H2 x (.ins A.c_Code dx [("words", V.ref pw)]) x = some (.ins A.c_Code dx [("words", V.ref pw)]) := upd_same
      generalize upd H2 x (.ins A.c_Code dx [("words", V.ref pw)]) = H3 at b3 hx3 ⊢
      refine ⟨_, rfl, a, _, rfl, SqE.but hx b3 ha, fun pl H4 s4 hl4 => ?_⟩
      refine ⟨_, rfl, x, _, dx, _, rfl, s4 _ _ hx3, Co.cl, Co.n_lengths, (by show 1 < 1000; decide), ?_⟩
      rw [put2]
      have b5 : But x H (upd H4 x (.ins A.c_Code dx [("words", V.ref pw), ("lengths", V.ref pl)])) := But.upd (b3.trans (But.of s4))
      have hx5 : upd H4 x (.ins A.c_Code dx [("words", V.ref pw), ("lengths", V.ref pl)]) x = some (.ins A.c_Code dx [("words", V.ref pw), ("lengths", V.ref pl)]) := upd_same
      generalize upd H4 x (.ins A.c_Code dx [("words", V.ref pw), ("lengths", V.ref pl)]) = H5 at b5 hx5 ⊢
      refine ⟨_, rfl, a, _, rfl, SqE.but hx b5 ha, ?_⟩
      refine ⟨_, rfl, x, _, dx, _, rfl, hx5, Co.cl, Co.n_size, (by show 2 < 1000; decide), ?_⟩
      rw [put3]
      have b6 : But x H (upd H5 x (.ins A.c_Code dx [("words", V.ref pw), ("lengths", V.ref pl), ("size", .int (((Ls L).length : Nat) : Int))])) := But.upd b5
      have hx6 : upd H5 x (.ins A.c_Code dx [("words", V.ref pw), ("lengths", V.ref pl), ("size", .int (((Ls L).length : Nat) : Int))]) x = some (.ins A.c_Code dx [("words", V.ref pw), ("lengths", V.ref pl), ("size", .int (((Ls L).length : Nat) : Int))]) := upd_same
      generalize upd H5 x (.ins A.c_Code dx [("words", V.ref pw), ("lengths", V.ref pl), ("size", .int (((Ls L).length : Nat) : Int))]) = H6 at b6 hx6 ⊢
      refine ⟨_, rfl, a, _, rfl, SqE.but hx b6 ha, by rw [List.length_map]; have := G.lo; omega, fun m hm1 hm2 => ?_⟩
      refine ⟨_, rfl, x, _, dx, _, rfl, hx6, Co.cl, Co.n_longest, (by show 3 < 1000; decide), ?_⟩
      rw [put4]
      exact fin _ _ (But.upd b6) upd_same
    | some ws =>
      obtain ⟨b, rfl, hb, hwl, hwo⟩ := hg
      have kw := O.word h26 L rfl hL hsum ws rfl
      refine ⟨_, rfl, rfl, _, rfl, iteF ?_⟩
      refine ⟨_, rfl, _, rfl, b, a, ws, L, rfl, hb.same s1, nV_eq L ▸ ha.same s1, by rw [hwl, Ls_len], by have := G.hi; omega, fun u hu => ⟨(hwo u hu).1.same s1, (hwo u hu).2⟩, fun i hi d G2 s2 e => kw i hi d G2 (s1.trans s2) e, fun ss es hA => ?_⟩
      subst es
      refine ⟨fun i j hij d G2 s2 e => O.begs h26 L rfl hL hsum ss rfl hA i j hij d G2 (s1.trans s2) e, fun hF H2' s2 => ?_⟩
      have fin := O.free h26 L rfl hL hsum ss rfl hA hF
      refine ⟨_, rfl, b, _, rfl, (hb.same s1).same s2, fun pw H2 s2b hp2 => ?_⟩
      have hx2 := s2b _ _ (s2 _ _ (s1 _ _ hx))
      have b2 : But x H H2 := But.of ((s1.trans s2).trans s2b)
      refine ⟨_, rfl, x, _, dx, _, rfl, hx2, Co.cl, Co.n_words, (by show 0 < 1000; decide), ?_⟩
      rw [put1]
      have b3 : But x H (upd H2 x (.ins A.c_Code dx [("words", .ref pw)])) := But.upd b2
      have hx3 : upd H2 x (.ins A.c_Code dx [("words", V.ref pw)]) x = some (.ins A.c_Code dx [("words", V.ref pw)]) := upd_same
      generalize upd H2 x (.ins A.c_Code dx [("words", V.ref pw)]) = H3 at b3 hx3 ⊢
      refine ⟨_, rfl, a, _, rfl, SqE.but hx b3 ha, fun pl H4 s4 hl4 => ?_⟩
      refine ⟨_, rfl, x, _, dx, _, rfl, s4 _ _ hx3, Co.cl, Co.n_lengths, (by show 1 < 1000; decide), ?_⟩
      rw [put2]
      have b5 : But x H (upd H4 x (.ins A.c_Code dx [("words", V.ref pw), ("lengths", V.ref pl)])) := But.upd (b3.trans (But.of s4))
      have hx5 : upd H4 x (.ins A.c_Code dx [("words", V.ref pw), ("lengths", V.ref pl)]) x = some (.ins A.c_Code dx [("words", V.ref pw), ("lengths", V.ref pl)]) := upd_same
      generalize upd H4 x (.ins A.c_Code dx [("words", V.ref pw), ("lengths", V.ref pl)]) = H5 at b5 hx5 ⊢
      refine ⟨_, rfl, a, _, rfl, SqE.but hx b5 ha, ?_⟩
      refine ⟨_, rfl, x, _, dx, _, rfl, hx5, Co.cl, Co.n_size, (by show 2 < 1000; decide), ?_⟩
      rw [put3]
      have b6 : But x H (upd H5 x (.ins A.c_Code dx [("words", V.ref pw), ("lengths", V.ref pl), ("size", .int (((Ls L).length : Nat) : Int))])) := But.upd b5
      have hx6 : upd H5 x (.ins A.c_Code dx [("words", V.ref pw), ("lengths", V.ref pl), ("size", .int (((Ls L).length : Nat) : Int))]) x = some (.ins A.c_Code dx [("words", V.ref pw), ("lengths", V.ref pl), ("size", .int (((Ls L).length : Nat) : Int))]) := upd_same
      generalize upd H5 x (.ins A.c_Code dx [("words", V.ref pw), ("lengths", V.ref pl), ("size", .int (((Ls L).length : Nat) : Int))]) = H6 at b6 hx6 ⊢
      refine ⟨_, rfl, a, _, rfl, SqE.but hx b6 ha, by rw [List.length_map]; have := G.lo; omega, fun m hm1 hm2 => ?_⟩
      refine ⟨_, rfl, x, _, dx, _, rfl, hx6, Co.cl, Co.n_longest, (by show 3 < 1000; decide), ?_⟩
      rw [put4]
      exact fin _ _ (But.upd b6) upd_same
end
end Z

set_option Elab.async false
set_option linter.all false
set_option maxRecDepth 100000
set_option maxHeartbeats 8000000
/-! what the law finds due: counts -/
namespace Z
open PySem L2 XV KR
def whole (v : V) (m : Int) : Bool := match v with
  | .int i => decide (m ≤ i)
  | _ => false
def spWhole (K : PySem.W.Frag) : Sp := fun vs H Q _ => ∃ (v : V) (m : Int), vs = [v, .int m] ∧ Odd K H v ∧ Q (.bl (whole v m)) H
theorem whole0 (v : V) : whole v 0 = isC v := by cases v <;> rfl
def spCd (K : PySem.W.Frag) : Sp := fun vs H Q _ => ∃ (a : Addr) (xs : List V), vs = [.ref a] ∧ H a = some (.lst xs) ∧ xs.length ≤ 1000 ∧ (∀ x ∈ xs, Odd K H x) ∧
  (¬ (2 ≤ xs.length ∧ xs.length ≤ 26) → ∀ t G, Same H G → G t = some (.tup [.str "signs", .int ((xs.length : Nat) : Int), .int 26]) → Q (.ref t) G) ∧
  (2 ≤ xs.length ∧ xs.length ≤ 26 → ∀ i : Nat, BadAt xs i → ∀ t G, Same H G → G t = some (.tup [.str "count", .int (i : Int)]) → Q (.ref t) G) ∧
  (2 ≤ xs.length ∧ xs.length ≤ 26 → (∀ x ∈ xs, isC x = true) → ∀ t G, Same H G → G t = some (.tup []) → Q (.ref t) G)
section
variable {P : Program} {w : World} {K : PySem.W.Frag} {mg : Str → Option Value} {base : Heap} {A : Ad}
theorem sc_iswhole : FnScope ["_law_value", "_law_least"] ["_law_value", "_law_least"] (defScope s_iswhole) := ⟨rfl, rfl, rfl, by decide +kernel, rfl, by decide +kernel, by decide +kernel⟩
theorem ok_iswhole (T : Txt K mg A) : FnOk P w K mg base CX0 1 A.a_iswhole A.d_iswhole ["_law_value", "_law_least"] (spWhole K) := by
  refine T.F_iswhole.ok sc_iswhole (fun vs H Q E h => ?_) (fun cdv Ar outer s H vs Q E hr h => ?_)
  · obtain ⟨v, m, rfl, _⟩ := h; rfl
  · obtain ⟨v, m, rfl, hv, kq⟩ := h
    refine ⟨_, (pss_one (ps_ret (pe_and (pe_callB call_isi (by rfl) T.z_isinstance (by decide +kernel) (pa_cons (pv 0) (pa_cons (pe_bltn (v := .ty "int") (by rfl) T.z_int (by decide +kernel) rfl) pa_nil))) (pe_and (pe_not (pe_callB call_isi (by rfl) T.z_isinstance (by decide +kernel) (pa_cons (pv 0) (pa_cons (pe_bltn (v := .ty "bool") (by rfl) T.z_bool (by decide +kernel) rfl) pa_nil)))) (pe_one (pe_cmpR op_ge (pv 0) (pv 1) (nomark _))))))), ?_⟩
    cases hv with
    | int i =>
      refine ⟨_, rfl, _, .ty "int", .type "int", .type "int", true, rfl, .ty "int", .base (.int i), kit_ty (by decide +kernel), true, rfl, iteT ?_⟩
      refine ⟨_, rfl, _, .ty "bool", .type "int", .type "bool", false, rfl, .ty "bool", .base (.int i), kit_ty (by decide +kernel), _, rfl, _, rfl, iteT ?_⟩
      exact ⟨_, rfl, _, rfl, _, _, rfl, rfl, kq⟩
    | bl b =>
      refine ⟨_, rfl, _, .ty "int", .type "bool", .type "int", true, rfl, .ty "int", .base (.bl b), kit_ty (by decide +kernel), true, rfl, iteT ?_⟩
      exact ⟨_, rfl, _, .ty "bool", .type "bool", .type "bool", true, rfl, .ty "bool", .base (.bl b), kit_ty (by decide +kernel), _, rfl, _, rfl, iteF kq⟩
    | non => exact ⟨_, rfl, _, .ty "int", .type "NoneType", .type "int", false, rfl, .ty "int", .base .non, kit_ty (by decide +kernel), false, rfl, iteF kq⟩
    | str x => exact ⟨_, rfl, _, .ty "int", .type "str", .type "int", false, rfl, .ty "int", .base (.str x), kit_ty (by decide +kernel), false, rfl, iteF kq⟩
    | lst h => exact ⟨_, rfl, _, .ty "int", .type "list", .type "int", false, rfl, .ty "int", .base (.lst h), kit_ty (by decide +kernel), false, rfl, iteF kq⟩
    | tup h => exact ⟨_, rfl, _, .ty "int", .type "tuple", .type "int", false, rfl, .ty "int", .base (.tup h), kit_ty (by decide +kernel), false, rfl, iteF kq⟩
    | dct h => exact ⟨_, rfl, _, .ty "int", .type "dict", .type "int", false, rfl, .ty "int", .base (.dK h), kit_ty (by decide +kernel), false, rfl, iteF kq⟩
    | ins h I => exact ⟨_, rfl, _, .ty "int", .ref _, .type "int", false, rfl, .ty "int", .base (.ins h I.cl I.ha I.hn I.ht I.hm), I.ki, false, rfl, iteF kq⟩
theorem sc_countsdue : FnScope ["_law_counts", "_law_index"] ["_law_counts"] (defScope s_countsdue) := ⟨rfl, rfl, rfl, by decide +kernel, rfl, by decide +kernel, by decide +kernel⟩
theorem ok_countsdue (T : Txt K mg A) : FnOk P w K mg base CX0 2 A.a_countsdue A.d_countsdue ["_law_counts"] (spCd K) := by
  have G_iswhole := ok_iswhole (P := P) (w := w) (base := base) T
  refine T.F_countsdue.ok sc_countsdue (fun vs H Q E h => ?_) (fun cdv Ar outer s H vs Q E hr h => ?_)
  · obtain ⟨a, xs, rfl, _⟩ := h; rfl
  · obtain ⟨a, xs, rfl, ha, hz, ho, k1, k2, k3⟩ := h
    refine ⟨_, (pss_cons (ps_if (pt_not (pt_chain op_le op_le pe_int (pe_callB call_len_seq (by rfl) T.z_len PySem.boot_len (pa_cons (pv 0) pa_nil)) pe_int)) (pss_one (ps_ret (pe_tup (pa_cons pe_str (pa_cons (pe_callB call_len_seq (by rfl) T.z_len PySem.boot_len (pa_cons (pv 0) pa_nil)) (pa_cons pe_int pa_nil))))))
        pss_nil)
      (pss_cons (ps_for PassesOwn.never rfl (pi_range1 (by rfl) T.z_range (pa_cons (pe_callB call_len_seq (by rfl) T.z_len PySem.boot_len (pa_cons (pv 0) pa_nil)) pa_nil)) (pg_name (i := 1) sc_countsdue.nd rfl (Or.inl rfl))
         (pss_one (ps_if (pt_not (pt_val (pe_call G_iswhole (hr.mono (by decide)) (by rfl) T.g_iswhole T.F_iswhole.kp T.b_iswhole .nil pass0 (pa_cons (pe_ix ix_list (pv 0) (pv 1) (fun _ _ => rfl)) (pa_cons pe_int pa_nil))))) (pss_one (ps_ret (pe_tup (pa_cons pe_str (pa_cons (pv 1) pa_nil)))))
           pss_nil)))
      (pss_one (ps_ret (pe_tup pa_nil))))), ?_⟩
    have fin1 : ¬ (2 ≤ xs.length ∧ xs.length ≤ 26) → ∀ t, H t = none → Q (.ref t) (upd H t (.tup [.str "signs", .int ((xs.length : Nat) : Int), .int 26])) := fun h t nt => k1 h t _ (same_new nt) upd_same
    refine ⟨_, rfl, a, _, rfl, .inl (SqL.of ha), _, _, rfl, rfl, _, rfl, ?_⟩
    by_cases c1 : (2 : Int) ≤ ((xs.length : Nat) : Int)
    case neg =>
      rw [decide_eq_false c1]
      exact iteF ⟨_, rfl, iteT ⟨_, rfl, a, _, rfl, .inl (SqL.of ha), (by show 3 ≤ sizeLine; decide), fun t nt => fin1 (fun z => c1 (by omega)) t nt⟩⟩
    rw [decide_eq_true c1]
    refine iteT ⟨_, _, rfl, rfl, _, rfl, ?_⟩
    by_cases c2 : ((xs.length : Nat) : Int) ≤ 26
    case neg =>
      rw [decide_eq_false c2]
      exact iteT ⟨_, rfl, a, _, rfl, .inl (SqL.of ha), (by show 3 ≤ sizeLine; decide), fun t nt => fin1 (fun z => c2 (by omega)) t nt⟩
    rw [decide_eq_true c2]
    have h26 : 2 ≤ xs.length ∧ xs.length ≤ 26 := ⟨by omega, by omega⟩
    refine iteF ⟨_, rfl, a, _, rfl, .inl (SqL.of ha), _, rfl, by omega, by omega, ?_⟩
    refine for_range (lo := 0) (n := xs.length) (fun i σ G => (∃ y, σ = [some (.ref a), y]) ∧ G = H ∧ ∀ (j : Nat) (v : V), j < i → xs[j]? = some v → isC v = true) ⟨⟨_, rfl⟩, rfl, fun j v hj => absurd hj (Nat.not_lt_zero j)⟩ ?_ ?_
    · rintro i σ G hi ⟨⟨y, rfl⟩, rfl, hb⟩
      rw [Int.zero_add]
      have hx := List.getElem?_eq_getElem hi
      generalize xs[i] = x at hx
      refine ⟨_, rfl, _, rfl, a, _, _, _, rfl, rfl, SqL.of ha, at_of rfl hx, x, 0, rfl, ho x (List.mem_of_getElem? hx), _, rfl, ?_⟩
      rw [whole0]
      cases hw : isC x with
      | false => exact iteT ⟨_, rfl, (by show 2 ≤ sizeLine; decide), fun t nt => k2 h26 i ⟨⟨x, hx, hw⟩, hb⟩ t _ (same_new nt) upd_same⟩
      | true =>
        refine iteF ⟨⟨_, rfl⟩, rfl, fun j v hj hv => ?_⟩
        rcases Nat.lt_succ_iff_lt_or_eq.mp hj with hj | rfl
        · exact hb j v hj hv
        · rw [hx] at hv; cases hv; exact hw
    · rintro σ G ⟨⟨y, rfl⟩, rfl, hb⟩
      exact ⟨(by show 0 ≤ sizeLine; decide), fun t nt => k3 h26 (fun x hx => by
        obtain ⟨j, hj, e⟩ := List.getElem_of_mem hx
        exact hb j x hj (by rw [List.getElem?_eq_getElem hj, e])) t _ (same_new nt) upd_same⟩
end
end Z

set_option Elab.async false
set_option linter.all false
set_option maxRecDepth 100000
set_option maxHeartbeats 8000000
/-! what the law finds due: codes -/
namespace Z
open PySem L2 XV KR
/-- what is told of Code(xs, g) -/
inductive Due (xs : List V) (g : Option (List V)) : List V → Prop
  | many (h : ¬ (2 ≤ xs.length ∧ xs.length ≤ 26)) : Due xs g [.str "signs", .int ((xs.length : Nat) : Int), .int 26]
  | len (h : 2 ≤ xs.length ∧ xs.length ≤ 26) (i : Nat) (b : BadL xs i) : Due xs g [.str "length", .int (i : Int)]
  | full (h : 2 ≤ xs.length ∧ xs.length ≤ 26) (L : List Nat) (e : xs = Ls L) (hL : ∀ l ∈ L, 1 ≤ l ∧ l ≤ 25) (s : (L.map wid).sum ≠ 2 ^ 25) : Due xs g [.str "full", .bl true]
  | non (h : 2 ≤ xs.length ∧ xs.length ≤ 26) (L : List Nat) (e : xs = Ls L) (hL : ∀ l ∈ L, 1 ≤ l ∧ l ≤ 25) (s : (L.map wid).sum = 2 ^ 25) (n : g = none) : Due xs g []
  | word (h : 2 ≤ xs.length ∧ xs.length ≤ 26) (L : List Nat) (e : xs = Ls L) (hL : ∀ l ∈ L, 1 ≤ l ∧ l ≤ 25) (s : (L.map wid).sum = 2 ^ 25) (ws : List V) (n : g = some ws) (i : Nat) (b : BadW ws L i) : Due xs g [.str "word", .int (i : Int)]
  | begs (h : 2 ≤ xs.length ∧ xs.length ≤ 26) (L : List Nat) (e : xs = Ls L) (hL : ∀ l ∈ L, 1 ≤ l ∧ l ≤ 25) (s : (L.map wid).sum = 2 ^ 25) (ss : List Str) (n : g = some (ss.map V.str)) (a : AllW (ss.map V.str) L) (i j : Nat) (b : BegAt ss i j) : Due xs g [.str "begins", .int (i : Int), .int (j : Int)]
  | free (h : 2 ≤ xs.length ∧ xs.length ≤ 26) (L : List Nat) (e : xs = Ls L) (hL : ∀ l ∈ L, 1 ≤ l ∧ l ≤ 25) (s : (L.map wid).sum = 2 ^ 25) (ss : List Str) (n : g = some (ss.map V.str)) (a : AllW (ss.map V.str) L) (f : Free ss) : Due xs g []
/-- the words that are handed on, as a list -/
def Giw (K : PySem.W.Frag) (H : Hp) (v : V) (n : Nat) (g : Option (List V)) : Prop := match g with
  | none => v = .non
  | some ws => ∃ b, v = .ref b ∧ H b = some (.lst ws) ∧ ws.length = n ∧ ∀ u ∈ ws, Odd K H u ∧ short u
def spXd (K : PySem.W.Frag) : Sp := fun vs H Q _ => ∃ (a : Addr) (v : V) (xs : List V) (g : Option (List V)), vs = [.ref a, v] ∧ H a = some (.lst xs) ∧ xs.length ≤ 1000 ∧ (∀ x ∈ xs, Odd K H x) ∧ Giw K H v xs.length g ∧
  ∀ r t G, Due xs g r → Same H G → G t = some (.tup r) → Q (.ref t) G
theorem in_bits (c : Nat) : inV (.str ⟨#[c]⟩) [.str "0", .str "1"] = (decide (c = 48) || decide (c = 49)) := by
  show (((⟨#[48]⟩ : Str) == ⟨#[c]⟩) || (((⟨#[49]⟩ : Str) == ⟨#[c]⟩) || false)) = _
  have e : ∀ d : Nat, ((⟨#[d]⟩ : Str) == ⟨#[c]⟩) = decide (c = d) := fun d => by
    rw [Bool.eq_iff_iff, beq_iff_eq, decide_eq_true_eq]
    constructor
    · intro h
      injection h with h
      have := congrArg Array.toList h
      simp at this
      exact this.symm
    · rintro rfl; rfl
  rw [e, e, Bool.or_false]
theorem isL_whole (v : V) : isL v = (match v with | .int i => decide (1 ≤ i) && decide (i ≤ 25) | _ => false) := by cases v <;> rfl
section
variable {P : Program} {w : World} {K : PySem.W.Frag} {mg : Str → Option Value} {base : Heap} {A : Ad}
theorem sc_codedue : FnScope ["_law_lengths", "_law_words_here", "_law_index", "_law_word", "_law_other", "_law_length", "_law_bit"] ["_law_lengths", "_law_words_here"] (defScope s_codedue) := ⟨rfl, rfl, rfl, by decide +kernel, rfl, by decide +kernel, by decide +kernel⟩
theorem ok_codedue (T : Txt K mg A) : FnOk P w K mg base CX0 2 A.a_codedue A.d_codedue ["_law_lengths", "_law_words_here"] (spXd K) := by
  have G_iswhole := ok_iswhole (P := P) (w := w) (base := base) T
  have G_two := ok_two (P := P) (w := w) (base := base) T
  refine T.F_codedue.ok sc_codedue (fun vs H Q E h => ?_) (fun cdv Ar outer s H vs Q E hr h => ?_)
  · obtain ⟨a, v, xs, g, rfl, _⟩ := h; rfl
  · obtain ⟨a, v, xs, g, rfl, ha, hz, ho, hg, kq⟩ := h
    refine ⟨_, (pss_cons (ps_if (pt_not (pt_chain op_le op_le pe_int (pe_callB call_len_seq (by rfl) T.z_len PySem.boot_len (pa_cons (pv 0) pa_nil)) pe_int)) (pss_one (ps_ret (pe_tup (pa_cons pe_str (pa_cons (pe_callB call_len_seq (by rfl) T.z_len PySem.boot_len (pa_cons (pv 0) pa_nil)) (pa_cons pe_int pa_nil))))))
        pss_nil)
      (pss_cons (ps_for PassesOwn.never rfl (pi_range1 (by rfl) T.z_range (pa_cons (pe_callB call_len_seq (by rfl) T.z_len PySem.boot_len (pa_cons (pv 0) pa_nil)) pa_nil)) (pg_name (i := 2) sc_codedue.nd rfl (Or.inl rfl))
         (pss_one (ps_if (PW.pt (pw_or (pt_not (pt_val (pe_call G_iswhole (hr.mono (by decide)) (by rfl) T.g_iswhole T.F_iswhole.kp T.b_iswhole .nil pass0 (pa_cons (pe_ix ix_list (pv 0) (pv 2) (fun _ _ => rfl)) (pa_cons pe_int pa_nil))))) (pw_or1 (pt_cmpR op_gt (pe_ix ix_list (pv 0) (pv 2) (fun _ _ => rfl)) pe_int (nomark _))))) (pss_one (ps_ret (pe_tup (pa_cons pe_str (pa_cons (pv 2) pa_nil)))))
           pss_nil)))
      (pss_cons (ps_if (pt_cmpR op_ne (pe_callB (cr_sum rfl) (by rfl) T.z_sum (by decide +kernel) (pa_cons (pe_lc (own := [("_law_length", 5)]) (by rfl) sc_codedue.nd (pi_list (pv 0)) (blkOk_by (own := [("_law_length", 5)]) (N := ["_law_lengths", "_law_words_here", "_law_index", "_law_word", "_law_other", "_law_length", "_law_bit"]) (sc := defScope s_codedue) (by decide +kernel)) (fun _ _ _ _ _ => (pg_name (i := 5) sc_codedue.nd rfl (Or.inl rfl))) (fun _ _ _ _ _ => pts_nil) (fun _ _ _ _ _ => (pe_call G_two (hr.mono (by decide)) (by rfl) T.g_two T.F_two.kp T.b_two .nil pass0 (pa_cons (pe_op op_sub pe_int (pv 5)) pa_nil)))) pa_nil)) (pe_call G_two (hr.mono (by decide)) (by rfl) T.g_two T.F_two.kp T.b_two .nil pass0 (pa_cons pe_int pa_nil)) (nomark _)) (pss_one (ps_ret (pe_tup (pa_cons pe_str (pa_cons pe_bl pa_nil)))))
        pss_nil)
      (pss_cons (ps_for PassesOwn.never rfl (pi_range1 (by rfl) T.z_range (pa_cons (pe_ifExp (pt_cmpR op_notN (pv 1) pe_non (nomark _)) (pe_callB call_len_seq (by rfl) T.z_len PySem.boot_len (pa_cons (pv 0) pa_nil)) pe_int) pa_nil)) (pg_name (i := 2) sc_codedue.nd rfl (Or.inl rfl))
         (pss_cons (ps_set (i := 3) sc_codedue.nd rfl (Or.inl rfl) (pe_ix ix_list (pv 1) (pv 2) (fun _ _ => rfl)))
         (pss_one (ps_if (PW.pt (pw_or (pt_not (pt_val (pe_callB call_isi (by rfl) T.z_isinstance (by decide +kernel) (pa_cons (pv 3) (pa_cons (pe_bltn (v := .ty "str") (by rfl) T.z_str (by decide +kernel) rfl) pa_nil))))) (pw_or (pt_cmpR op_ne (pe_callB call_len_str (by rfl) T.z_len PySem.boot_len (pa_cons (pv 3) pa_nil)) (pe_ix ix_list (pv 0) (pv 2) (fun _ _ => rfl)) (nomark _)) (pw_or1 (pt_not (pt_val (pe_callB (cr_all rfl) (by rfl) T.z_all (by decide +kernel) (pa_cons (pe_lc (own := [("_law_bit", 6)]) (by rfl) sc_codedue.nd (pi_str (pv 3)) (blkOk_by (own := [("_law_bit", 6)]) (N := ["_law_lengths", "_law_words_here", "_law_index", "_law_word", "_law_other", "_law_length", "_law_bit"]) (sc := defScope s_codedue) (by decide +kernel)) (fun _ _ _ _ _ => (pg_name (i := 6) sc_codedue.nd rfl (Or.inl rfl))) (fun _ _ _ _ _ => pts_nil) (fun _ _ _ _ _ => (pe_cmpR (r := rIn K false) op_in_seq (pv 6) (pe_lst (pa_cons pe_str (pa_cons pe_str pa_nil))) rfl))) pa_nil)))))))) (pss_one (ps_ret (pe_tup (pa_cons pe_str (pa_cons (pv 2) pa_nil)))))
           pss_nil))))
      (pss_cons (ps_for PassesOwn.never rfl (pi_range1 (by rfl) T.z_range (pa_cons (pe_ifExp (pt_cmpR op_notN (pv 1) pe_non (nomark _)) (pe_callB call_len_seq (by rfl) T.z_len PySem.boot_len (pa_cons (pv 0) pa_nil)) pe_int) pa_nil)) (pg_name (i := 2) sc_codedue.nd rfl (Or.inl rfl))
         (pss_one (ps_for PassesOwn.never rfl (pi_range2 (by rfl) T.z_range (pa_cons (pe_op op_add (pv 2) pe_int) (pa_cons (pe_callB call_len_seq (by rfl) T.z_len PySem.boot_len (pa_cons (pv 0) pa_nil)) pa_nil))) (pg_name (i := 4) sc_codedue.nd rfl (Or.inl rfl))
            (pss_one (ps_if (PW.pt (pw_or (pt_val (pe_m1 PySem.F.slot_str_startswith PySem.F.type_str_startswith mt_startswith (pe_ix ix_list (pv 1) (pv 2) (fun _ _ => rfl)) (pe_ix ix_list (pv 1) (pv 4) (fun _ _ => rfl)))) (pw_or1 (pt_val (pe_m1 PySem.F.slot_str_startswith PySem.F.type_str_startswith mt_startswith (pe_ix ix_list (pv 1) (pv 4) (fun _ _ => rfl)) (pe_ix ix_list (pv 1) (pv 2) (fun _ _ => rfl))))))) (pss_one (ps_ret (pe_tup (pa_cons pe_str (pa_cons (pv 2) (pa_cons (pv 4) pa_nil))))))
              pss_nil)))))
      (pss_one (ps_ret (pe_tup pa_nil)))))))), ?_⟩
    have fin : ∀ {r : List V} {G : Hp}, Due xs g r → Same H G → r.length ≤ sizeLine ∧ ∀ t, G t = none → Q (.ref t) (upd G t (.tup r)) := fun {r G} hd s => ⟨by cases hd <;> first | (show 3 ≤ sizeLine; decide) | (show 2 ≤ sizeLine; decide) | (show 0 ≤ sizeLine; decide), fun t nt => kq r t _ hd (s.trans (same_new nt)) upd_same⟩
    have f0 : ∀ {r : List V}, Due xs g r → _ := fun {r} hd => fin hd (Same.refl H)
    refine ⟨_, rfl, a, _, rfl, .inl (SqL.of ha), _, _, rfl, rfl, _, rfl, ?_⟩
    by_cases c1 : (2 : Int) ≤ ((xs.length : Nat) : Int)
    case neg =>
      rw [decide_eq_false c1]
      exact iteF ⟨_, rfl, iteT ⟨_, rfl, a, _, rfl, .inl (SqL.of ha), f0 (.many fun z => c1 (by omega))⟩⟩
    rw [decide_eq_true c1]
    refine iteT ⟨_, _, rfl, rfl, _, rfl, ?_⟩
    by_cases c2 : ((xs.length : Nat) : Int) ≤ 26
    case neg =>
      rw [decide_eq_false c2]
      exact iteT ⟨_, rfl, a, _, rfl, .inl (SqL.of ha), f0 (.many fun z => c2 (by omega))⟩
    rw [decide_eq_true c2]
    have h26 : 2 ≤ xs.length ∧ xs.length ≤ 26 := ⟨by omega, by omega⟩
    refine iteF ⟨_, rfl, a, _, rfl, .inl (SqL.of ha), _, rfl, by omega, by omega, ?_⟩
    refine for_range (lo := 0) (n := xs.length) (fun i σ G => (∃ y2 y3 y4 y5 y6, σ = [some (.ref a), some v, y2, y3, y4, y5, y6]) ∧ G = H ∧ ∀ (j : Nat) (v : V), j < i → xs[j]? = some v → isL v = true) ⟨⟨_, _, _, _, _, rfl⟩, rfl, fun j v hj => absurd hj (Nat.not_lt_zero j)⟩ ?_ ?_
    · rintro i σ G hi ⟨⟨y2, y3, y4, y5, y6, rfl⟩, rfl, hb⟩
      rw [Int.zero_add]
      have hx := List.getElem?_eq_getElem hi
      generalize xs[i] = x at hx
      have nx : isL x = true → ∀ (j : Nat) (v : V), j < i + 1 → xs[j]? = some v → isL v = true := fun hw j v hj hv => by
        rcases Nat.lt_succ_iff_lt_or_eq.mp hj with hj | rfl
        · exact hb j v hj hv
        · rw [hx] at hv; cases hv; exact hw
      refine ⟨_, rfl, _, rfl, a, _, _, _, rfl, rfl, SqL.of ha, at_of rfl hx, x, 1, rfl, ho x (List.mem_of_getElem? hx), _, rfl, ?_⟩
      cases hw : whole x 1 with
      | false =>
        have nl : isL x = false := by
          cases x <;> first | rfl | skip
          rename_i n
          have h1 : decide (1 ≤ n) = false := hw
          show (decide (1 ≤ n) && decide (n ≤ 25)) = false
          rw [h1, Bool.false_and]
        exact iteT ⟨_, rfl, f0 (.len h26 i ⟨⟨x, hx, nl⟩, hb⟩)⟩
      | true =>
        obtain ⟨n, rfl⟩ : ∃ n, x = .int n := by cases x <;> first | exact ⟨_, rfl⟩ | (cases hw; done)
        have h1 : decide (1 ≤ n) = true := hw
        refine iteF ⟨_, rfl, _, rfl, a, _, _, _, rfl, rfl, SqL.of ha, at_of rfl hx, _, _, rfl, rfl, _, rfl, ?_⟩
        by_cases c : (25 : Int) < n
        · rw [decide_eq_true c]
          exact iteT ⟨_, rfl, f0 (.len h26 i ⟨⟨_, hx, by show (decide (1 ≤ n) && decide (n ≤ 25)) = false; rw [show decide (n ≤ 25) = false from decide_eq_false (by omega), Bool.and_false]⟩, hb⟩)⟩
        · rw [decide_eq_false c]
          exact iteF ⟨⟨_, _, _, _, _, rfl⟩, rfl, nx (by show (decide (1 ≤ n) && decide (n ≤ 25)) = true; rw [h1, show decide (n ≤ 25) = true from decide_eq_true (by omega)]; rfl)⟩
    rintro σ G ⟨⟨y2, y3, y4, y5, y6, rfl⟩, rfl, hb⟩
    obtain ⟨L, eL, hL⟩ := nats_of fun x hx => by
      obtain ⟨j, hj, e⟩ := List.getElem_of_mem hx
      exact hb j x hj (by rw [List.getElem?_eq_getElem hj, e])
    rw [Ls_eq] at eL
    subst eL
    have ll := Ls_len L
    refine ⟨_, rfl, a, rfl, ⟨_, SqL.of ha⟩, fun D hD => lc_list (xs := Ls L) (fun i G2 => Same G G2 ∧ G2 D = some (.lst (((L.take i).map fun l => ((2 ^ (25 - l) : Nat) : Int)).map V.int))) ⟨same_new hD, by rw [upd_same]; rfl⟩ (fun i G2 _ h => SqL.of (h.1 _ _ ha)) (fun i x G2 hx h => ⟨rfl, yes_of ?_⟩) (fun G2 h => ?_)⟩
    · obtain ⟨l, hl, rfl⟩ := Ls_of hx
      have r := hL l (List.mem_of_getElem? hl)
      obtain ⟨s2, hD2⟩ := h
      refine ⟨_, rfl, _, _, rfl, rfl, 25 - l, by show [V.int ((25 : Int) - (l : Int))] = _; rw [show ((25 : Int) - (l : Int)) = ((25 - l : Nat) : Int) by omega], by omega, _, hD2, ?_, fun b o e => by rw [upd_ne (ne_of_none e hD)]; exact s2 _ _ e, ?_⟩
      · rw [List.length_map, List.length_map, List.length_take, sizeLine_eq]; omega
      · rw [upd_same, List.take_succ, hl, List.map_append, List.map_append]; rfl
    obtain ⟨s2, hD2⟩ := h
    rw [ll, List.take_length] at hD2
    have es : (L.map fun l => ((2 ^ (25 - l) : Nat) : Int)).sum = (L.map wid).sum := by
      congr 1
      exact List.map_congr_left fun l hl => (wid_eq (hL l hl).2).symm
    refine ⟨D, _, rfl, SqL.of hD2, 25, rfl, by decide, rfl, _, rfl, ?_⟩
    rw [es]
    by_cases cs : (L.map wid).sum = 2 ^ 25
    case neg =>
      rw [show decide (V.int (L.map wid).sum = V.int ((2 ^ 25 : Nat) : Int)) = false from decide_eq_false (fun z => cs (by injection z with z))]
      exact iteT (fin (.full h26 L rfl hL cs) s2)
    rw [show decide (V.int (L.map wid).sum = V.int ((2 ^ 25 : Nat) : Int)) = true from decide_eq_true (by rw [cs]; norm_cast)]
    refine iteF ?_
    have ha2 := s2 _ _ ha
    have i26 := h26.2
    cases g with
    | none =>
      cases (show v = .non from hg)
      refine ⟨_, rfl, rfl, _, rfl, iteF ⟨0, rfl, by decide, by decide, ?_⟩⟩
      refine for_range (lo := 0) (n := 0) (fun i σ G3 => (∃ y2 y3 y4 y5 y6, σ = [some (.ref a), some .non, y2, y3, y4, y5, y6]) ∧ G3 = G2) ⟨⟨_, _, _, _, _, rfl⟩, rfl⟩ (fun i σ G3 hi _ => absurd hi (Nat.not_lt_zero _)) (fun σ G3 hP => ?_)
      obtain ⟨⟨y2, y3, y4, y5, y6, rfl⟩, rfl⟩ := hP
      refine ⟨_, rfl, rfl, _, rfl, iteF ⟨0, rfl, by decide, by decide, ?_⟩⟩
      refine for_range (lo := 0) (n := 0) (fun i σ G4 => (∃ y2 y3 y4 y5 y6, σ = [some (.ref a), some .non, y2, y3, y4, y5, y6]) ∧ G4 = G3) ⟨⟨_, _, _, _, _, rfl⟩, rfl⟩ (fun i σ G3 hi _ => absurd hi (Nat.not_lt_zero _)) (fun σ G4 hP => ?_)
      obtain ⟨⟨y2, y3, y4, y5, y6, rfl⟩, rfl⟩ := hP
      exact fin (.non h26 L rfl hL cs rfl) s2
    | some ws =>
      obtain ⟨b, rfl, hbw, hwl, hwo⟩ := hg
      have hb2 := s2 _ _ hbw
      rw [ll] at hwl
      refine ⟨_, rfl, rfl, _, rfl, iteT ⟨_, rfl, a, _, rfl, .inl (SqL.of ha2), _, rfl, by omega, by omega, ?_⟩⟩
      refine for_range (lo := 0) (n := (Ls L).length) (fun i σ G3 => (∃ y2 y3 y4 y5 y6, σ = [some (.ref a), some (.ref b), y2, y3, y4, y5, y6]) ∧ Same G2 G3 ∧ ∀ (j : Nat) (v : V) (l : Nat), j < i → ws[j]? = some v → L[j]? = some l → isW v l = true) ⟨⟨_, _, _, _, _, rfl⟩, Same.refl G2, fun j v l hj => absurd hj (Nat.not_lt_zero j)⟩ ?_ ?_
      · rintro i σ G3 hi ⟨⟨y2, y3, y4, y5, y6, rfl⟩, s3, hB⟩
        rw [Int.zero_add]
        have li : i < L.length := by rw [← ll]; exact hi
        have hl := List.getElem?_eq_getElem li
        have hu := List.getElem?_eq_getElem (show i < ws.length by omega)
        generalize L[i] = l at hl
        generalize ws[i] = u at hu
        have hll := Ls_at hl
        have hb3 := s3 _ _ hb2
        have ha3 := s3 _ _ ha2
        obtain ⟨ou, su⟩ := hwo u (List.mem_of_getElem? hu)
        have s23 := s2.trans s3
        have ou := ou.same s23
        have bad : isW u l = false → ∀ {G5 : Hp}, Same G3 G5 → _ := fun hw {G5} s5 => fin (.word h26 L rfl hL cs ws rfl i ⟨⟨u, l, hu, hl, hw⟩, hB⟩) (s23.trans s5)
        have nx : isW u l = true → ∀ (j : Nat) (v : V) (l : Nat), j < i + 1 → ws[j]? = some v → L[j]? = some l → isW v l = true := fun hw j v' l' hj hv' hl' => by
          rcases Nat.lt_succ_iff_lt_or_eq.mp hj with hj | rfl
          · exact hB j v' l' hj hv' hl'
          · rw [hu] at hv'; rw [hl] at hl'; cases hv'; cases hl'; exact hw
        refine ⟨_, rfl, _, rfl, b, _, _, _, rfl, rfl, SqL.of hb3, at_of rfl hu, ?_⟩
        cases ou with
        | non => exact ⟨_, rfl, _, .ty "str", .type "NoneType", .type "str", false, rfl, .ty "str", .base .non, kit_ty (by decide +kernel), false, rfl, iteT ⟨_, rfl, bad rfl (Same.refl G3)⟩⟩
        | bl b' => exact ⟨_, rfl, _, .ty "str", .type "bool", .type "str", false, rfl, .ty "str", .base (.bl b'), kit_ty (by decide +kernel), false, rfl, iteT ⟨_, rfl, bad rfl (Same.refl G3)⟩⟩
        | int i' => exact ⟨_, rfl, _, .ty "str", .type "int", .type "str", false, rfl, .ty "str", .base (.int i'), kit_ty (by decide +kernel), false, rfl, iteT ⟨_, rfl, bad rfl (Same.refl G3)⟩⟩
        | lst h => exact ⟨_, rfl, _, .ty "str", .type "list", .type "str", false, rfl, .ty "str", .base (.lst h), kit_ty (by decide +kernel), false, rfl, iteT ⟨_, rfl, bad rfl (Same.refl G3)⟩⟩
        | tup h => exact ⟨_, rfl, _, .ty "str", .type "tuple", .type "str", false, rfl, .ty "str", .base (.tup h), kit_ty (by decide +kernel), false, rfl, iteT ⟨_, rfl, bad rfl (Same.refl G3)⟩⟩
        | dct h => exact ⟨_, rfl, _, .ty "str", .type "dict", .type "str", false, rfl, .ty "str", .base (.dK h), kit_ty (by decide +kernel), false, rfl, iteT ⟨_, rfl, bad rfl (Same.refl G3)⟩⟩
        | ins h I => exact ⟨_, rfl, _, .ty "str", .ref _, .type "str", false, rfl, .ty "str", .base (.ins h I.cl I.ha I.hn I.ht I.hm), I.ks, false, rfl, iteT ⟨_, rfl, bad rfl (Same.refl G3)⟩⟩
        | str x =>
        have hxl := su x rfl
        have xsz : x.length = x.cps.toList.length := by simp [Str.length]
        refine ⟨_, rfl, .str _, .ty "str", .type "str", .type "str", true, rfl, .ty "str", .base (.str _), kit_ty (by decide +kernel), true, rfl, iteF ?_⟩
        refine ⟨_, rfl, x, rfl, (by rw [xsz]; exact Nat.le_trans hxl (by decide)), _, rfl, _, rfl, a, _, _, _, rfl, rfl, SqL.of ha3, at_of rfl hll, rfl, _, rfl, ?_⟩
        by_cases c : x.cps.toList.length = l
        case neg =>
          rw [show decide (V.int ((x.length : Nat) : Int) = V.int (l : Int)) = false from decide_eq_false (fun z => c (by injection z with z; rw [xsz] at z; omega))]
          exact iteT ⟨_, rfl, bad (by show (decide (x.cps.toList.length = l) && _) = false; rw [decide_eq_false c, Bool.false_and]) (Same.refl G3)⟩
        rw [show decide (V.int ((x.length : Nat) : Int) = V.int (l : Int)) = true from decide_eq_true (by rw [xsz, c])]
        refine iteF ?_
        refine ⟨_, rfl, x, rfl, fun D3 nD3 => lc_it walk_str (fun j G4 => Same G3 G4 ∧ G4 D3 = some (.lst (((x.cps.toList.take j).map fun c => decide (c = 48) || decide (c = 49)).map V.bl))) ⟨same_new nD3, by rw [upd_same]; rfl⟩ (fun _ _ _ _ => trivial) ?_ ?_⟩
        · rintro j w G4 G4' hj ⟨s4, h4⟩ ⟨rfl, ch, hch, rfl⟩
          refine ⟨rfl, yes_of ⟨_, rfl, (by show 2 ≤ sizeLine; decide), fun q nq => ⟨q, _, rfl, .inl (SqL.of upd_same), rfl, rfl, _, by rw [upd_ne (ne_of_none h4 nq)]; exact h4, ?_, fun b' o e => ?_, ?_⟩⟩⟩
          · rw [List.length_map, List.length_map, List.length_take, sizeLine_eq]; omega
          · rw [upd_ne (ne_of_none e nD3), upd_ne (ne_of_none (s4 _ _ e) nq)]; exact s4 _ _ e
          · have hch2 : x.cps.toList[j]? = some ch := by rw [Array.getElem?_toList]; exact hch
            rw [upd_same, List.take_succ, hch2, List.map_append, List.map_append]
            show some (HO.lst (_ ++ [V.bl (inV (.str ⟨#[ch]⟩) [.str "0", .str "1"])])) = some (HO.lst (_ ++ [V.bl (decide (ch = 48) || decide (ch = 49))]))
            rw [in_bits]
        rintro G4 ⟨s4, h4⟩
        rw [show x.cps.toList.take x.cps.size = x.cps.toList from List.take_of_length_le (by simp)] at h4
        refine ⟨D3, _, rfl, SqL.of h4, _, rfl, ?_⟩
        have eB : ((x.cps.toList.map fun c => decide (c = 48) || decide (c = 49)).all id) = isB x.cps.toList := by rw [List.all_map]; rfl
        rw [eB]
        cases hB2 : isB x.cps.toList with
        | false => exact iteT ⟨_, rfl, bad (by show (_ && isB x.cps.toList) = false; rw [hB2, Bool.and_false]) s4⟩
        | true => exact iteF ⟨⟨_, _, _, _, _, rfl⟩, s3.trans s4, nx (by show (decide (x.cps.toList.length = l) && isB x.cps.toList) = true; rw [hB2, decide_eq_true c]; rfl)⟩
      rintro σ G3 ⟨⟨y2, y3, y4, y5, y6, rfl⟩, s3, hB⟩
      have hA : AllW ws L := fun j v l hv hl => hB j v l (by rw [ll]; exact (List.getElem?_eq_some_iff.mp hl).1) hv hl
      obtain ⟨ss, rfl⟩ := strs_of hwl hA
      rw [List.length_map] at hwl
      have sat : ∀ {i : Nat} {x : Str}, ss[i]? = some x → (ss.map V.str)[i]? = some (.str x) := fun h => by rw [List.getElem?_map, h]; rfl
      have ha3 := s3 _ _ ha2
      have hb3 := s3 _ _ hb2
      have s23 := s2.trans s3
      refine ⟨_, rfl, rfl, _, rfl, iteT ⟨_, rfl, a, _, rfl, .inl (SqL.of ha3), _, rfl, by omega, by omega, ?_⟩⟩
      refine for_range (lo := 0) (n := (Ls L).length) (fun i σ G4 => (∃ y2 y3 y4 y5 y6, σ = [some (.ref a), some (.ref b), y2, y3, y4, y5, y6]) ∧ G4 = G3 ∧ ∀ (i' j' : Nat) (x x' : Str), i' < i → i' < j' → ss[i']? = some x → ss[j']? = some x' → begT x x' = false) ⟨⟨_, _, _, _, _, rfl⟩, rfl, fun i' j' x x' h => absurd h (Nat.not_lt_zero _)⟩ ?_ ?_
      · rintro i σ G4 hi ⟨⟨y2, y3, y4, y5, y6, rfl⟩, rfl, hF⟩
        rw [Int.zero_add]
        have iw : i < ss.length := by rw [ll] at hi; omega
        have hw := List.getElem?_eq_getElem iw
        generalize ss[i] = x at hw
        refine ⟨_, rfl, _, _, rfl, rfl, _, rfl, a, _, rfl, .inl (SqL.of ha3), _, _, rfl, ⟨by omega, by omega, by omega, by omega⟩, ?_⟩
        refine for_range (lo := (i : Int) + 1) (n := (((Ls L).length : Nat) : Int) - ((i : Int) + 1) |>.toNat) (fun j σ G5 => (∃ y3 y4 y5 y6, σ = [some (.ref a), some (.ref b), some (.int (i : Int)), y3, y4, y5, y6]) ∧ G5 = G4 ∧ ∀ (j' : Nat) (x' : Str), i < j' → j' < i + 1 + j → ss[j']? = some x' → begT x x' = false) ⟨⟨_, _, _, _, rfl⟩, rfl, fun j' x' h1 h2 => by omega⟩ ?_ ?_
        · rintro j σ G5 hj ⟨⟨y3, y4, y5, y6, rfl⟩, rfl, hJ⟩
          have jw : i + 1 + j < ss.length := by omega
          have hy := List.getElem?_eq_getElem jw
          have ej : (i : Int) + 1 + (j : Int) = ((i + 1 + j : Nat) : Int) := by omega
          generalize ss[i + 1 + j] = y' at hy
          rw [ej]
          have bad : begT x y' = true → _ := fun n => fin (.begs h26 L rfl hL cs ss rfl hA i (i + 1 + j) ⟨by omega, ⟨x, y', hw, hy, n⟩, fun i' j' p q hc hij hp hq => by
              rcases hc with hc | ⟨rfl, hc⟩
              · exact hF i' j' p q hc hij hp hq
              · rw [hw] at hp; cases hp; exact hJ j' q hij hc hq⟩) s23
          refine ⟨_, rfl, _, rfl, b, _, _, _, rfl, rfl, SqL.of hb3, at_of rfl (sat hw), ⟨_, rfl⟩, _, rfl, _, rfl, b, _, _, _, rfl, rfl, SqL.of hb3, at_of rfl (sat hy), ?_⟩
          refine ⟨_, _, rfl, rfl, _, rfl, ?_⟩
          cases n1 : Txt.startswith x y' with
          | true => exact iteT ⟨_, rfl, _, rfl, bad (by unfold begT; rw [n1]; rfl)⟩
          | false =>
          refine iteF ?_
          refine ⟨_, rfl, _, rfl, b, _, _, _, rfl, rfl, SqL.of hb3, at_of rfl (sat hy), ⟨_, rfl⟩, _, rfl, _, rfl, b, _, _, _, rfl, rfl, SqL.of hb3, at_of rfl (sat hw), ?_⟩
          refine ⟨_, _, rfl, rfl, _, rfl, ?_⟩
          cases n2 : Txt.startswith y' x with
          | true => exact iteT ⟨_, rfl, _, rfl, bad (by unfold begT; rw [n2, Bool.or_true])⟩
          | false =>
          refine iteF ⟨⟨_, _, _, _, rfl⟩, rfl, fun j' x' h1 h2 h3 => ?_⟩
          by_cases c : j' = i + 1 + j
          · subst c
            rw [hy] at h3; cases h3
            unfold begT; rw [n1, n2]; rfl
          · exact hJ j' x' h1 (by omega) h3
        · rintro σ G5 ⟨⟨y3, y4, y5, y6, rfl⟩, rfl, hJ⟩
          refine ⟨⟨_, _, _, _, _, rfl⟩, rfl, fun i' j' p q hc hij hp hq => ?_⟩
          rcases Nat.lt_succ_iff_lt_or_eq.mp hc with hc | rfl
          · exact hF i' j' p q hc hij hp hq
          · rw [hw] at hp; cases hp
            have := (List.getElem?_eq_some_iff.mp hq).1
            exact hJ j' q hij (by omega) hq
      rintro σ G4 ⟨⟨y2, y3, y4, y5, y6, rfl⟩, rfl, hF⟩
      exact fin (.free h26 L rfl hL cs ss rfl hA fun i j p q hij hp hq => hF i j p q (by rw [ll]; have := (List.getElem?_eq_some_iff.mp hp).1; omega) hij hp hq) s23
end
end Z

set_option Elab.async false
set_option linter.all false
set_option maxRecDepth 100000
set_option maxHeartbeats 8000000
/-! counts and spoilt lists -/
namespace Z
open PySem L2 XV KR
theorem Pen.newl {H : Hp} {d l D : Addr} {k : Nat} {o : HO} (h : Pen H d l k) (n : H D = none) : Pen (L2.upd H D o) d l k := by
  obtain ⟨x, e⟩ := h.some
  obtain ⟨y, f⟩ := h.cells
  exact h.upd (ne_of_none e n) (ne_of_none f n)
theorem But.newl {d D : Addr} {H G : Hp} {o : HO} (h : But d H G) (n : H D = none) : But d H (L2.upd G D o) := fun x u ne e => by
  rw [upd_ne (ne_of_none e n)]
  exact h x u ne e
theorem ixN_nat {n i : Nat} (h : i < n) : ixN n (i : Int) = some i := by
  unfold ixN
  rw [if_pos (by omega), if_pos (by omega)]; simp
def spCo : Sp := fun vs H Q _ => ∃ (d l : Addr) (k n : Nat), vs = [.ref d, .int (n : Int)] ∧ Pen H d l k ∧ n ≤ 30 ∧ k ≤ 900000 ∧
  ∀ (p : Addr) (cs : List Int) (G : Hp) (k' : Nat), cs.length = n → (∀ x ∈ cs, 0 ≤ x) → k' ≤ k + 1 + n → Pen G d l k' → G p = some (.lst (cs.map V.int)) → But d H G → Q (.ref p) G
def spSp : Sp := fun vs H Q _ => ∃ (d l p q : Addr) (k : Nat) (xs os : List V), vs = [.ref d, .ref p, .ref q] ∧ Pen H d l k ∧ H p = some (.lst xs) ∧ 0 < xs.length ∧ xs.length ≤ 100 ∧ H q = some (.lst os) ∧ 0 < os.length ∧ os.length < 1000 ∧ k ≤ 900000 ∧
  ∀ (r : Addr) (ys : List V) (G : Hp) (k' : Nat), G r = some (.lst ys) → ys.length ≤ xs.length + 1 → (∀ y ∈ ys, y ∈ xs ∨ y ∈ os) → k' ≤ k + 3 → Pen G d l k' → But d H G → Q (.ref r) G
theorem cut_to {xs : List V} {i : Nat} (h : i ≤ xs.length) : cutV xs none (some (i : Int)) = xs.take i := by
  unfold cutV
  rw [HT.sIx_none, HT.sIx_nat, Nat.min_eq_left h, List.drop_zero, Nat.sub_zero]
theorem cut_fromN {xs : List V} {i : Nat} (h : i ≤ xs.length) : cutV xs (some (i : Int)) none = xs.drop i := by
  unfold cutV
  rw [HT.sIx_none, HT.sIx_nat, Nat.min_eq_left h, List.take_of_length_le (by rw [List.length_drop]; omega)]
section
variable {P : Program} {w : World} {K : PySem.W.Frag} {mg : Str → Option Value} {base : Heap} {A : Ad}
theorem sc_countsof : FnScope ["_law_pen", "_law_many", "_law_way", "_law_found", "_law_k", "_law_small", "_law_power"] ["_law_pen", "_law_many"] (defScope s_countsof) := ⟨rfl, rfl, rfl, by decide +kernel, rfl, by decide +kernel, by decide +kernel⟩
theorem ok_countsof (T : Txt K mg A) : FnOk P w K mg base CX0 3 A.a_countsof A.d_countsof ["_law_pen", "_law_many"] spCo := by
  have G_draw := ok_draw (P := P) (w := w) (base := base) T
  refine T.F_countsof.ok sc_countsof (fun vs H Q E h => ?_) (fun cdv Ar outer s H vs Q E hr h => ?_)
  · obtain ⟨d, l, k, n, rfl, _⟩ := h; rfl
  · obtain ⟨d, l, k, n, rfl, pen, hn0, hk, kq⟩ := h
    refine ⟨_, (pss_cons (ps_par (i := 2) (j := 3) (by rfl) sc_countsof.nd rfl rfl (by decide) rfl rfl (pa_cons (pe_call G_draw (hr.mono (by decide)) (by rfl) T.g_draw T.F_draw.kp T.b_draw .nil pass0 (pa_cons (pv 0) (pa_cons pe_int pa_nil))) (pa_cons (pe_lst pa_nil) pa_nil)) (by rfl))
      (pss_cons (ps_for PassesOwn.never rfl (pi_range1 (by rfl) T.z_range (pa_cons (pv 1) pa_nil)) (pg_name (i := 4) sc_countsof.nd rfl (Or.inl rfl))
         (pss_cons (ps_set (i := 5) sc_countsof.nd rfl (Or.inl rfl) (pe_call G_draw (hr.mono (by decide)) (by rfl) T.g_draw T.F_draw.kp T.b_draw .nil pass0 (pa_cons (pv 0) (pa_cons pe_int pa_nil))))
         (pss_cons (ps_set (i := 6) sc_countsof.nd rfl (Or.inl rfl) (pe_ix ix_list (pe_lst (pa_cons pe_int (pa_cons pe_int (pa_cons pe_int (pa_cons pe_int (pa_cons pe_int (pa_cons pe_int (pa_cons pe_int (pa_cons pe_int (pa_cons pe_int (pa_cons pe_int pa_nil))))))))))) (pv 5) (fun _ _ => rfl)))
         (pss_one (ps_expr (pe_bm PySem.F.plainAttrs_list PySem.F.slot_list_append PySem.F.type_list_append mt_append (pv 3) (pa_cons (pe_ix ix_list (pe_lst (pa_cons (pv 5) (pa_cons (pe_op op_add pe_int (pe_op op_mod (pv 5) pe_int)) (pa_cons (pv 6) (pa_cons (pe_op op_add (pe_op op_mul (pv 5) (pe_op op_pow pe_int pe_int)) pe_int) (pa_cons (pe_op op_mul (pv 5) (pv 5)) pa_nil)))))) (pv 2) (fun _ _ => rfl)) pa_nil)))))))
      (pss_one (ps_ret (pv 3))))), ?_⟩
    refine ⟨_, rfl, d, l, 5, k, rfl, pen, by decide, by decide, by omega, fun v1 G1 k1 v1a v1b hk1 pen1 bt1 => ⟨(by show 0 ≤ sizeLine; decide), fun p np => ⟨_, _, rfl, ?_⟩⟩⟩
    have nd : d ≠ p := let ⟨x, e⟩ := pen1.some; ne_of_none e np
    have nl : l ≠ p := let ⟨x, e⟩ := pen1.cells; ne_of_none e np
    have npH : H p = none := by
      cases e : H p with
      | none => rfl
      | some o => have := bt1 _ _ nd.symm e; rw [np] at this; cases this
    have hten : ∀ m : Nat, m < 10 → ∃ z : Int, 0 ≤ z ∧ ([V.int 1, V.int 1, V.int 2, V.int 4, V.int 8, V.int 16, V.int 32, V.int 64, V.int 128, V.int 256] : List V)[m]? = some (.int z) := fun m hm => match m, hm with
      | 0, _ => ⟨_, by decide, rfl⟩ | 1, _ => ⟨_, by decide, rfl⟩ | 2, _ => ⟨_, by decide, rfl⟩ | 3, _ => ⟨_, by decide, rfl⟩ | 4, _ => ⟨_, by decide, rfl⟩
      | 5, _ => ⟨_, by decide, rfl⟩ | 6, _ => ⟨_, by decide, rfl⟩ | 7, _ => ⟨_, by decide, rfl⟩ | 8, _ => ⟨_, by decide, rfl⟩ | 9, _ => ⟨_, by decide, rfl⟩
      | m + 10, h => absurd h (by omega)
    refine ⟨_, rfl, _, rfl, by omega, by omega, ?_⟩
    refine for_range (lo := 0) (n := n) (fun i σ G => ∃ (acc : List Int) (k' : Nat), (∃ z4 z5 z6, σ = [some (.ref d), some (.int (n : Int)), some (.int v1), some (.ref p), z4, z5, z6]) ∧ acc.length = i ∧ (∀ x ∈ acc, 0 ≤ x) ∧ k' ≤ k1 + i ∧ Pen G d l k' ∧ But d H G ∧ G p = some (.lst (acc.map V.int))) ⟨[], k1, ⟨_, _, _, rfl⟩, rfl, by simp, Nat.le_refl _, pen1.upd nd nl, fun x u ne e => by rw [upd_ne (ne_of_none e npH)]; exact bt1 _ _ ne e, upd_same⟩ ?_ ?_
    · rintro i σ G hi ⟨acc, k', ⟨z4, z5, z6, rfl⟩, ha, hc, hk', pen', bt, gp⟩
      refine ⟨_, rfl, d, l, 10, k', rfl, pen', by decide, by decide, by omega, fun v2 G2 k2 v2a v2b hk2 pen2 bt2 => ?_⟩
      have gp2 := bt2 _ _ nd.symm gp
      have b2 := bt.trans bt2
      obtain ⟨m, rfl⟩ : ∃ m : Nat, v2 = (m : Int) := ⟨v2.toNat, (Int.toNat_of_nonneg v2a).symm⟩
      obtain ⟨pw, pw0, hpw⟩ := hten m (by omega)
      refine ⟨(by show 10 ≤ sizeLine; decide), fun L nL => ⟨_, rfl, L, _, _, _, rfl, rfl, SqL.of upd_same, at_of rfl hpw, ?_⟩⟩
      have sL : Same G2 (upd G2 L (.lst [V.int 1, V.int 1, V.int 2, V.int 4, V.int 8, V.int 16, V.int 32, V.int 64, V.int 128, V.int 256])) := same_new nL
      generalize upd G2 L (.lst [V.int 1, V.int 1, V.int 2, V.int 4, V.int 8, V.int 16, V.int 32, V.int 64, V.int 128, V.int 256]) = G3 at *
      refine ⟨_, rfl, .inl ⟨rfl, _, SqL.of (sL _ _ gp2)⟩, _, rfl, _, rfl, _, _, rfl, rfl, (by decide : (0 : Int) < 2), _, _, rfl, rfl, _, rfl, _, rfl, _, _, rfl, rfl, ⟨by decide, by decide, by decide⟩, _, _, rfl, rfl, mul_l (by omega) (by omega), _, _, rfl, rfl, _, rfl, _, rfl, _, _, rfl, rfl, mul_l (by omega) (by omega), (by show 5 ≤ sizeLine; decide), fun M nM => ?_⟩
      obtain ⟨j, hj⟩ : ∃ j : Nat, v1 = (j : Int) := ⟨v1.toNat, (Int.toNat_of_nonneg v1a).symm⟩
      have hfive : ∃ z : Int, 0 ≤ z ∧ ([V.int (m : Int), V.int (1 + (m : Int) % 2), V.int pw, V.int ((m : Int) * 10 ^ Int.toNat 28 + 5), V.int ((m : Int) * (m : Int))] : List V)[j]? = some (.int z) := by
        have j5 : j < 5 := by omega
        match j, j5 with
        | 0, _ => exact ⟨_, by omega, rfl⟩
        | 1, _ => exact ⟨_, by omega, rfl⟩
        | 2, _ => exact ⟨_, pw0, rfl⟩
        | 3, _ => exact ⟨_, Int.add_nonneg (Int.mul_nonneg (by omega) (by decide +kernel)) (by decide), rfl⟩
        | 4, _ => exact ⟨_, Int.mul_nonneg (by omega) (by omega), rfl⟩
        | j + 5, h => exact absurd h (by omega)
      obtain ⟨z, z0, hz⟩ := hfive
      have sM := same_new (o := .lst [V.int (m : Int), V.int (1 + (m : Int) % 2), V.int pw, V.int ((m : Int) * 10 ^ Int.toNat 28 + 5), V.int ((m : Int) * (m : Int))]) nM
      have s23 := sL.trans sM
      refine ⟨_, rfl, M, _, _, _, rfl, rfl, SqL.of upd_same, at_of hj hz, p, _, _, rfl, rfl, s23 _ _ gp2, by rw [List.length_map, ha, sizeLine_eq]; omega, acc ++ [z], k2, ⟨_, _, _, rfl⟩, by rw [List.length_append, ha]; rfl, fun x hx => ?_, by omega, (pen2.same s23).upd nd nl, fun x u ne e => ?_, by rw [upd_same, List.map_append]; rfl⟩
      · rcases List.mem_append.mp hx with h | h
        · exact hc x h
        · simp at h; subst h; exact z0
      · rw [upd_ne (ne_of_none e npH)]
        exact s23 _ _ (b2 _ _ ne e)
    · rintro σ G ⟨acc, k', ⟨z4, z5, z6, rfl⟩, ha, hc, hk', pen', bt, gp⟩
      exact ⟨_, rfl, kq p acc G k' ha hc (by omega) pen' gp bt⟩
theorem sc_spoilt : FnScope ["_law_pen", "_law_items", "_law_odd", "_law_way", "_law_at", "_law_found"] ["_law_pen", "_law_items", "_law_odd"] (defScope s_spoilt) := ⟨rfl, rfl, rfl, by decide +kernel, rfl, by decide +kernel, by decide +kernel⟩
theorem ok_spoilt (T : Txt K mg A) : FnOk P w K mg base CX0 3 A.a_spoilt A.d_spoilt ["_law_pen", "_law_items", "_law_odd"] spSp := by
  have G_draw := ok_draw (P := P) (w := w) (base := base) T
  have G_pick := ok_pick (P := P) (w := w) (base := base) T
  refine T.F_spoilt.ok sc_spoilt (fun vs H Q E h => ?_) (fun cdv Ar outer s H vs Q E hr h => ?_)
  · obtain ⟨d, l, p, q, k, xs, os, rfl, _⟩ := h; rfl
  · obtain ⟨d, l, p, q, k, xs, os, rfl, pen, hp, x0, x1, hq, o0, o1, hk, kq⟩ := h
    refine ⟨_, (pss_cons (ps_par3 (i := 3) (j := 4) (l := 5) (by rfl) sc_spoilt.nd rfl rfl rfl (by decide) (by decide) (by decide) rfl rfl rfl (pa_cons (pe_call G_draw (hr.mono (by decide)) (by rfl) T.g_draw T.F_draw.kp T.b_draw .nil pass0 (pa_cons (pv 0) (pa_cons pe_int pa_nil))) (pa_cons (pe_call G_draw (hr.mono (by decide)) (by rfl) T.g_draw T.F_draw.kp T.b_draw .nil pass0 (pa_cons (pv 0) (pa_cons (pe_callB call_len_seq (by rfl) T.z_len PySem.boot_len (pa_cons (pv 1) pa_nil)) pa_nil))) (pa_cons (pe_callTy call_list_of (by rfl) T.z_list (by decide +kernel) (pa_cons (pv 1) pa_nil)) pa_nil))) (by rfl))
      (pss_cons (ps_if (pt_cmpR op_eq (pv 3) pe_int (nomark _)) (pss_one (ps_expr (pe_bm PySem.F.plainAttrs_list PySem.F.slot_list_pop PySem.F.type_list_pop mt_popAt (pv 5) (pa_cons (pv 4) pa_nil))))
        pss_nil)
      (pss_cons (ps_if (pt_cmpR op_eq (pv 3) pe_int (nomark _)) (pss_one (ps_asg (pe_call G_pick (hr.mono (by decide)) (by rfl) T.g_pick T.F_pick.kp T.b_pick .nil pass0 (pa_cons (pv 0) (pa_cons (pv 2) pa_nil))) (pg_sub (pv 5) (pv 4) set_list)))
        pss_nil)
      (pss_cons (ps_if (pt_cmpR op_eq (pv 3) pe_int (nomark _)) (pss_one (ps_set (i := 5) sc_spoilt.nd rfl (Or.inl rfl) (pe_op op_cat (pe_op op_cat (pe_slice sl_list (pv 5) po_none (po_some (pv 4))) (pe_lst (pa_cons (pe_call G_pick (hr.mono (by decide)) (by rfl) T.g_pick T.F_pick.kp T.b_pick .nil pass0 (pa_cons (pv 0) (pa_cons (pv 2) pa_nil))) pa_nil))) (pe_slice sl_list (pv 5) (po_some (pv 4)) po_none))))
        pss_nil)
      (pss_one (ps_ret (pv 5))))))), ?_⟩
    refine ⟨_, rfl, d, l, 4, k, rfl, pen, by decide, by decide, by omega, fun v1 G1 k1 v1a v1b hk1 pen1 bt1 => ?_⟩
    have pd : p ≠ d := let ⟨x, e⟩ := pen.some; ne_of hp e (fun z => nomatch z)
    have qd : q ≠ d := let ⟨x, e⟩ := pen.some; ne_of hq e (fun z => nomatch z)
    refine ⟨_, rfl, _, rfl, p, _, rfl, .inl (SqL.of (bt1 _ _ pd hp)), d, l, _, k1, rfl, pen1, by omega, by omega, by omega, fun v2 G2 k2 v2a v2b hk2 pen2 bt2 => ?_⟩
    have b2 := bt1.trans bt2
    have hp2 := b2 _ _ pd hp
    have hq2 := b2 _ _ qd hq
    obtain ⟨i, rfl⟩ : ∃ i : Nat, v2 = (i : Int) := ⟨v2.toNat, (Int.toNat_of_nonneg v2a).symm⟩
    have il : i < xs.length := by omega
    refine ⟨_, rfl, p, _, rfl, .inl (SqL.of hp2), fun r n_r => ?_⟩
    have s_r : Same G2 (upd G2 r (.lst xs)) := same_new n_r
    have h_r : upd G2 r (.lst xs) r = some (.lst xs) := upd_same
    generalize upd G2 r (.lst xs) = G4 at *
    have b4 := b2.trans (But.of s_r)
    have pen4 := pen2.same s_r
    have hr4 := h_r
    have hq4 := s_r _ _ hq2
    have rd : r ≠ d := let ⟨x, e⟩ := pen4.some; ne_of hr4 e (fun z => nomatch z)
    have rl : r ≠ l := let ⟨x, e⟩ := pen2.cells; (ne_of_none e n_r).symm
    have nrH : H r = none := by
      cases e : H r with
      | none => rfl
      | some o => have := b2 _ _ rd e; rw [n_r] at this; cases this
    refine ⟨_, _, _, rfl, ?_⟩
    have hv : v1 = 0 ∨ v1 = 1 ∨ v1 = 2 ∨ v1 = 3 := by omega
    rcases hv with rfl | rfl | rfl | rfl
    · refine ⟨_, rfl, rfl, _, rfl, ?_⟩
      refine iteT ⟨_, rfl, .inl ⟨rfl, _, SqL.of hr4⟩, _, rfl, r, _, _, _, _, rfl, rfl, hr4, by omega, by omega, (ixN_seq (ixN_nat il)).1, List.getElem?_eq_getElem il, ?_⟩
      refine ⟨_, rfl, rfl, _, rfl, iteF ⟨_, rfl, rfl, _, rfl, iteF ⟨_, rfl, ?_⟩⟩⟩
      refine kq r _ _ k2 upd_same (Nat.le_trans (List.length_eraseIdx_le _ _) (Nat.le_succ _)) (fun y hy => .inl (List.mem_of_mem_eraseIdx hy)) (by omega) (pen4.upd rd.symm rl.symm) (fun x o ne e => by rw [upd_ne (ne_of_none e nrH)]; exact b4 _ _ ne e)
    · refine ⟨_, rfl, rfl, _, rfl, iteF ⟨_, rfl, rfl, _, rfl, ?_⟩⟩
      refine iteT ⟨_, rfl, _, rfl, d, l, q, os, k2, rfl, pen4, hq4, o0, o1, by omega, fun v G5 k5 hv hk5 pen5 bt5 => ?_⟩
      refine ⟨_, rfl, _, rfl, r, xs, _, i, rfl, rfl, bt5 _ _ rd hr4, ixN_nat il, ?_⟩
      refine ⟨_, rfl, rfl, _, rfl, iteF ⟨_, rfl, ?_⟩⟩
      refine kq r _ _ k5 upd_same (by rw [List.length_set]; omega) (fun y hy => ?_) (by omega) (pen5.upd rd.symm rl.symm) (fun x o ne e => by rw [upd_ne (ne_of_none e nrH)]; exact bt5 _ _ ne (b4 _ _ ne e))
      rcases List.mem_or_eq_of_mem_set hy with h | rfl
      · exact .inl h
      · exact .inr hv
    · refine ⟨_, rfl, rfl, _, rfl, iteF ⟨_, rfl, rfl, _, rfl, iteF ⟨_, rfl, rfl, _, rfl, ?_⟩⟩⟩
      refine iteT ?_
      refine ⟨_, rfl, _, rfl, _, rfl, r, _, rfl, SqL.of hr4, fun c n_c => ?_⟩
      rw [cut_to (Nat.le_of_lt il)]
      have s_c : Same G4 (upd G4 c (.lst (xs.take i))) := same_new n_c
      have h_c : upd G4 c (.lst (xs.take i)) c = some (.lst (xs.take i)) := upd_same
      generalize upd G4 c (.lst (xs.take i)) = G5 at *
      have pen5 := pen4.same s_c
      refine ⟨_, rfl, _, rfl, d, l, q, os, k2, rfl, pen5, s_c _ _ hq4, o0, o1, by omega, fun v G6 k6 hv hk6 pen6 bt6 => ?_⟩
      have cd : c ≠ d := let ⟨x, e⟩ := pen5.some; ne_of h_c e (fun z => nomatch z)
      have hr6 := bt6 _ _ rd (s_c _ _ hr4)
      have hc6 := bt6 _ _ cd h_c
      refine ⟨(by show 1 ≤ sizeLine; decide), fun m n_m => ?_⟩
      have s_m : Same G6 (upd G6 m (.lst [v])) := same_new n_m
      have h_m : upd G6 m (.lst [v]) m = some (.lst [v]) := upd_same
      generalize upd G6 m (.lst [v]) = G7 at *
      refine ⟨_, _, _, _, rfl, rfl, s_m _ _ hc6, h_m, by rw [List.length_take, sizeLine_eq]; show _ + 1 ≤ _; omega, fun e n_e => ?_⟩
      have s_e : Same G7 (upd G7 e (.lst (xs.take i ++ [v]))) := same_new n_e
      have h_e : upd G7 e (.lst (xs.take i ++ [v])) e = some (.lst (xs.take i ++ [v])) := upd_same
      generalize upd G7 e (.lst (xs.take i ++ [v])) = G8 at *
      refine ⟨_, rfl, _, rfl, _, rfl, r, _, rfl, SqL.of (s_e _ _ (s_m _ _ hr6)), fun f n_f => ?_⟩
      rw [cut_fromN (Nat.le_of_lt il)]
      have s_f : Same G8 (upd G8 f (.lst (xs.drop i))) := same_new n_f
      have h_f : upd G8 f (.lst (xs.drop i)) f = some (.lst (xs.drop i)) := upd_same
      generalize upd G8 f (.lst (xs.drop i)) = G9 at *
      refine ⟨_, _, _, _, rfl, rfl, s_f _ _ h_e, h_f, by rw [List.length_append, List.length_take, List.length_drop, sizeLine_eq]; show _ + 1 + _ ≤ _; omega, fun y n_y => ?_⟩
      have s69 := ((s_m.trans s_e).trans s_f).trans (same_new (o := .lst (xs.take i ++ [v] ++ xs.drop i)) n_y)
      refine ⟨_, rfl, kq y _ _ k6 upd_same ?_ (fun z hz => ?_) (by omega) (pen6.same s69) (((b4.trans (But.of s_c)).trans bt6).trans (But.of s69))⟩
      · rw [List.length_append, List.length_append, List.length_take, List.length_drop]
        show min i xs.length + 1 + _ ≤ _
        omega
      · rw [List.append_assoc, List.mem_append, List.mem_append] at hz
        rcases hz with h | h | h
        · exact .inl (List.mem_of_mem_take h)
        · simp only [List.mem_cons, List.not_mem_nil, or_false] at h; subst h; exact .inr hv
        · exact .inl (List.mem_of_mem_drop h)
    · refine ⟨_, rfl, rfl, _, rfl, iteF ⟨_, rfl, rfl, _, rfl, iteF ⟨_, rfl, rfl, _, rfl, iteF ⟨_, rfl, ?_⟩⟩⟩⟩
      exact kq r xs G4 k2 hr4 (Nat.le_succ _) (fun y hy => .inl hy) (by omega) pen4 b4
end
end Z

set_option Elab.async false
set_option linter.all false
set_option maxRecDepth 100000
set_option maxHeartbeats 8000000
/-! what is due is one thing; the errors that are met -/
namespace Z
open PySem L2 XV KR LamX
theorem map_str_inj : ∀ {a b : List Str}, a.map V.str = b.map V.str → a = b
  | [], [], _ => rfl
  | x :: a, y :: b, h => by
    rw [List.map_cons, List.map_cons] at h
    injection h with h1 h2
    injection h1 with h1
    rw [h1, map_str_inj h2]
  | [], _ :: _, h => nomatch h
  | _ :: _, [], h => nomatch h
theorem Ls_inj {L M : List Nat} (h : Ls L = Ls M) : L = M := by
  apply List.ext_getElem?
  intro i
  have e : (Ls L)[i]? = (Ls M)[i]? := by rw [h]
  unfold Ls at e
  rw [List.map_map, List.map_map, List.getElem?_map, List.getElem?_map] at e
  cases a : L[i]? <;> cases b : M[i]? <;> rw [a, b] at e
  · cases e
  · cases e
  · have e := Option.some.inj e
    have e : V.int _ = V.int _ := e
    injection e with e
    rw [Int.ofNat.inj e]
theorem BadL.uniq {xs : List V} {i j : Nat} (a : BadL xs i) (b : BadL xs j) : i = j := by
  obtain ⟨⟨v, v1, v2⟩, va⟩ := a
  obtain ⟨⟨w, w1, w2⟩, wa⟩ := b
  rcases Nat.lt_trichotomy i j with h | h | h
  · rw [wa i v h v1] at v2; cases v2
  · exact h
  · rw [va j w h w1] at w2; cases w2
theorem BadL.no {L : List Nat} {i : Nat} (h : BadL (Ls L) i) (hL : ∀ l ∈ L, 1 ≤ l ∧ l ≤ 25) : False := by
  obtain ⟨⟨v, v1, v2⟩, _⟩ := h
  obtain ⟨l, hl, rfl⟩ := Ls_of v1
  have r := hL l (List.mem_of_getElem? hl)
  have : isL (.int (l : Int)) = true := by
    show (decide (1 ≤ (l : Int)) && decide ((l : Int) ≤ 25)) = true
    rw [decide_eq_true (by omega), decide_eq_true (by omega)]; rfl
  rw [this] at v2; cases v2
theorem BadAt.uniq {xs : List V} {i j : Nat} (a : BadAt xs i) (b : BadAt xs j) : i = j := by
  obtain ⟨⟨v, v1, v2⟩, va⟩ := a
  obtain ⟨⟨w, w1, w2⟩, wa⟩ := b
  rcases Nat.lt_trichotomy i j with h | h | h
  · rw [wa i v h v1] at v2; cases v2
  · exact h
  · rw [va j w h w1] at w2; cases w2
theorem BadAt.no {xs : List V} {i : Nat} (h : BadAt xs i) (hn : ∀ x ∈ xs, isC x = true) : False := by
  obtain ⟨⟨v, v1, v2⟩, _⟩ := h
  rw [hn v (List.mem_of_getElem? v1)] at v2
  cases v2
theorem BadW.uniq {ws : List V} {L : List Nat} {i j : Nat} (a : BadW ws L i) (b : BadW ws L j) : i = j := by
  obtain ⟨⟨v, l, v1, v2, v3⟩, va⟩ := a
  obtain ⟨⟨w, m, w1, w2, w3⟩, wa⟩ := b
  rcases Nat.lt_trichotomy i j with h | h | h
  · rw [wa i v l h v1 v2] at v3; cases v3
  · exact h
  · rw [va j w m h w1 w2] at w3; cases w3
theorem BadW.no {ws : List V} {L : List Nat} {i : Nat} (a : BadW ws L i) (h : AllW ws L) : False := by
  obtain ⟨⟨v, l, v1, v2, v3⟩, _⟩ := a
  rw [h i v l v1 v2] at v3; cases v3
theorem BegAt.uniq {ss : List Str} {i j i' j' : Nat} (a : BegAt ss i j) (b : BegAt ss i' j') : i = i' ∧ j = j' := by
  obtain ⟨a0, ⟨x, y, a1, a2, a3⟩, a4⟩ := a
  obtain ⟨b0, ⟨z, u, b1, b2, b3⟩, b4⟩ := b
  by_cases c : i' < i ∨ (i' = i ∧ j' < j)
  · rw [a4 i' j' z u c b0 b1 b2] at b3; cases b3
  · by_cases c2 : i < i' ∨ (i = i' ∧ j < j')
    · rw [b4 i j x y c2 a0 a1 a2] at a3; cases a3
    · omega
theorem BegAt.no {ss : List Str} {i j : Nat} (a : BegAt ss i j) (h : Free ss) : False := by
  obtain ⟨a0, ⟨x, y, a1, a2, a3⟩, _⟩ := a
  rw [h i j x y a0 a1 a2] at a3; cases a3
theorem Due.uniq {xs : List V} {g : Option (List V)} {r r' : List V} (a : Due xs g r) (b : Due xs g r') : r = r' := by
  cases a with
  | many h => cases b <;> first | rfl | (exfalso; apply h; assumption)
  | len h i c =>
    cases b with
    | many h' => exact absurd h h'
    | len _ j c' => rw [c.uniq c']
    | full _ L e hL _ => subst e; exact (c.no hL).elim
    | non _ L e hL _ _ => subst e; exact (c.no hL).elim
    | word _ L e hL _ _ _ _ _ => subst e; exact (c.no hL).elim
    | begs _ L e hL _ _ _ _ _ _ _ => subst e; exact (c.no hL).elim
    | free _ L e hL _ _ _ _ _ => subst e; exact (c.no hL).elim
  | full h L e hL s =>
    subst e
    cases b with
    | many h' => exact absurd h h'
    | len _ j c' => exact (c'.no hL).elim
    | full => rfl
    | non _ M e' _ s' _ => rw [Ls_inj e'] at s; exact absurd s' s
    | word _ M e' _ s' _ _ _ _ => rw [Ls_inj e'] at s; exact absurd s' s
    | begs _ M e' _ s' _ _ _ _ _ _ => rw [Ls_inj e'] at s; exact absurd s' s
    | free _ M e' _ s' _ _ _ _ => rw [Ls_inj e'] at s; exact absurd s' s
  | non h L e hL s n =>
    subst e n
    cases b with
    | many h' => exact absurd h h'
    | len _ j c' => exact (c'.no hL).elim
    | full _ M e' _ s' => rw [Ls_inj e'] at s; exact absurd s s'
    | non => rfl
    | word _ _ _ _ _ _ n' _ _ => cases n'
    | begs _ _ _ _ _ _ n' _ _ _ _ => cases n'
    | free _ _ _ _ _ _ n' _ _ => rfl
  | word h L e hL s ws n i c =>
    subst e n
    cases b with
    | many h' => exact absurd h h'
    | len _ j c' => exact (c'.no hL).elim
    | full _ M e' _ s' => rw [Ls_inj e'] at s; exact absurd s s'
    | non _ _ _ _ _ n' => cases n'
    | word _ M e' _ _ _ n' j c' => cases n'; cases Ls_inj e'; rw [c.uniq c']
    | begs _ M e' _ _ ss n' a' _ _ _ => cases n'; cases Ls_inj e'; exact (c.no a').elim
    | free _ M e' _ _ ss n' a' _ => cases n'; cases Ls_inj e'; exact (c.no a').elim
  | begs h L e hL s ss n a i j c =>
    subst e n
    cases b with
    | many h' => exact absurd h h'
    | len _ j c' => exact (c'.no hL).elim
    | full _ M e' _ s' => rw [Ls_inj e'] at s; exact absurd s s'
    | non _ _ _ _ _ n' => cases n'
    | word _ M e' _ _ _ n' j c' => cases n'; cases Ls_inj e'; exact (c'.no a).elim
    | begs _ M e' _ _ ss' n' a' i' j' c' => cases map_str_inj (Option.some.inj n'); obtain ⟨rfl, rfl⟩ := c.uniq c'; rfl
    | free _ M e' _ _ ss' n' a' f => cases map_str_inj (Option.some.inj n'); exact (c.no f).elim
  | free h L e hL s ss n a f =>
    subst e n
    cases b with
    | many h' => exact absurd h h'
    | len _ j c' => exact (c'.no hL).elim
    | full _ M e' _ s' => rw [Ls_inj e'] at s; exact absurd s s'
    | non _ _ _ _ _ n' => rfl
    | word _ M e' _ _ _ n' j c' => cases n'; cases Ls_inj e'; exact (c'.no a).elim
    | begs _ M e' _ _ ss' n' a' i' j' c' => cases map_str_inj (Option.some.inj n'); exact (c'.no f).elim
    | free => rfl
abbrev qL (q : Str) : Str := (PyProof.Rows.envOfC q (defScope s_law) 0 0 .none).qual ++ "<lambda>"
/-- the tables that lambdas are kept in -/
def TL (A : Ad) : List (Addr × Str) := [(A.p_law, qL "law")]
def manyF (i : Int) : List (Str × V) := [("most", .int 26), ("many", .int i), ("what", .str "signs")]
def indexF (i : Int) : List (Str × V) := [("index", .int i)]
def pairF (i j : Int) : List (Str × V) := [("other", .int j), ("index", .int i)]
theorem lk_what (i : Int) : (manyF i).lookup ("what" : Str) = some (.str "signs") := by kernel_rfl
theorem lk_many (i : Int) : (manyF i).lookup ("many" : Str) = some (.int i) := by kernel_rfl
theorem lk_most (i : Int) : (manyF i).lookup ("most" : Str) = some (.int 26) := by kernel_rfl
theorem lk_index (i : Int) : (indexF i).lookup ("index" : Str) = some (.int i) := by kernel_rfl
theorem lk_index2 (i j : Int) : (pairF i j).lookup ("index" : Str) = some (.int i) := by kernel_rfl
theorem lk_other (i j : Int) : (pairF i j).lookup ("other" : Str) = some (.int j) := by kernel_rfl
/-- an answer of _law_refusal: a tuple with these parts -/
def Ans (Q : VK) (G : Hp) (r : List V) : Prop := ∀ t G', Same G G' → G' t = some (.tup r) → Q (.ref t) G'
/-- what _law_refusal makes of the lambda that it gets; t0 is where () stands -/
def TRef (A : Ad) : (XK → Hp → VK → Prop) → Hp → VK → Prop := fun tl H Q => ∀ (t0 : Addr), H t0 = none → ∀ (E : XK) (Qn : VK),
  (∀ d G i, G d = some (.xd (manyF i)) → Ans Q G [.str "signs", .int i, .int 26] → E (.ref A.c_TooMany) (some d) G) →
  (∀ d G i, G d = some (.xd (indexF i)) → Ans Q G [.str "count", .int i] → E (.ref A.c_BadCount) (some d) G) →
  (∀ d G i, G d = some (.xd (indexF i)) → Ans Q G [.str "length", .int i] → E (.ref A.c_BadLength) (some d) G) →
  (∀ G, Ans Q G [.str "full", .bl true] → E (.ref A.c_NotFull) none G) →
  (∀ d G i, G d = some (.xd (indexF i)) → Ans Q G [.str "word", .int i] → E (.ref A.c_BadWord) (some d) G) →
  (∀ d G i j, G d = some (.xd (pairF i j)) → Ans Q G [.str "begins", .int i, .int j] → E (.ref A.c_Begins) (some d) G) →
  (∀ v G, Q (.ref t0) G → Qn v G) → tl E (upd H t0 (.tup [])) Qn
theorem exm_Ec {K : PySem.W.Frag} {mg : Str → Option Value} {cj C fI : Addr} {x qual : Str} {st : Stmt} {fd : FuncData} {fs : List Str} (E : Ec K mg cj C fI x qual st fd fs) : PySem.W.exmOne K (.ref C) (.ref C) = some true := by
  have s1 : PySem.W.subIn K (.ref C) (.ref C) = some true := by
    obtain ⟨cd, h1, h2⟩ := E.m
    show PySem.W.mroIn K C (.ref C) = some true
    unfold PySem.W.mroIn
    rw [h1, Option.bind_some, h2]
    simp
  exact PySem.W.exm_ref E.R.sb E.R.hd E.ty s1
theorem exm_no {K : PySem.W.Frag} {mg : Str → Option Value} {cj C fI C2 fI2 : Addr} {x qual x2 qual2 : Str} {st st2 : Stmt} {fd fd2 : FuncData} {fs fs2 : List Str} (E : Ec K mg cj C fI x qual st fd fs) (E2 : Ec K mg cj C2 fI2 x2 qual2 st2 fd2 fs2) (n1 : C ≠ C2) (n2 : C ≠ cj) : PySem.W.exmOne K (.ref C2) (.ref C) = some false := by
  have s1 : PySem.W.subIn K (.ref C2) (.ref C) = some false := by
    obtain ⟨cd, h1, h2⟩ := E2.m
    show PySem.W.mroIn K C2 (.ref C) = some false
    unfold PySem.W.mroIn
    rw [h1, Option.bind_some, h2]
    simp [n1.symm, n2.symm, n1, n2]
  exact PySem.W.exm_ref E.R.sb E.R.hd E.ty s1
theorem kit_Ec {K : PySem.W.Frag} {mg : Str → Option Value} {cj C fI : Addr} {x qual : Str} {st : Stmt} {fd : FuncData} {fs : List Str} (E : Ec K mg cj C fI x qual st fd fs) (hj : (PySem.W.clsIn K cj).isSome = true) (tj : PySem.W.typeIn K (.ref cj) = some (.type "type")) : PySem.W.kitOne K (.ref C) (.ref cj) = some true := by
  have s1 : PySem.W.subIn K (.ref C) (.ref cj) = some true := by
    obtain ⟨cd, h1, h2⟩ := E.m
    show PySem.W.mroIn K C (.ref cj) = some true
    unfold PySem.W.mroIn
    rw [h1, Option.bind_some, h2]
    simp
  unfold PySem.W.kitOne
  split
  · rfl
  · show (if ((PySem.W.clsIn K cj).isSome && PySem.W.typeIn K (.ref cj) == some (.type "type")) = true then PySem.W.subIn K (.ref C) (.ref cj) else none) = some true
    rw [hj, tj, if_pos (by simp)]
    exact s1
theorem xf_of {K : PySem.W.Frag} {D : Addr} (R : ErrR K D) : XfC K D := ⟨R.ga, R.gt, R.sb, R.hd⟩
section
variable {P : Program} {w : World} {K : PySem.W.Frag} {mg : Str → Option Value} {base : Heap} {A : Ad}
theorem sc_refusal : FnScope ["_law_call", "_law_told", "e"] ["_law_call"] (defScope s_refusal) := ⟨rfl, rfl, rfl, by decide +kernel, rfl, by decide +kernel, by decide +kernel⟩
theorem ref_gives {X : Cx} {cdv : Value} {q : Str} (T : Txt X.K X.mg A) : GivesS X ["_law_call", "_law_told", "e"] "_law_refusal" (defScope s_refusal) A.a_refusal cdv (defBody s_refusal) "_law_call" q (TRef A) := by
  intro f c' s H Q tl act hc h
  refine ⟨_, (pss_cons (ps_set (i := 1) sc_refusal.nd rfl (Or.inl rfl) (pe_tup pa_nil))
    (pss_cons (ps_try_manyAs (i := 2) (tb := fun W D σ H => σ[0]? = some (some (.ref f)) ∧ H c' = some (CodeO c' q) ∧ tl (WE W σ) H (fun _ H' => D.nx σ H')) rfl rfl sc_refusal.nd rfl rfl takes_none5
        (fun W pn xe tk _ => pss_one (ps_expr (act W pn xe _ _ tk)))
        (.cons (c := .ref A.c_TooMany) ⟨rfl, by decide, .inl T.E_TooMany.g⟩ (fun a oe cls d pn hz hf => pss_one (ps_set (i := 1) sc_refusal.nd rfl (Or.inl rfl) (pe_tup (pa_cons (pe_xf (xf_of T.E_TooMany.R) (T.E_TooMany.no "what" (by decide +kernel)) hz hf (pv 2)) (pa_cons (pe_xf (xf_of T.E_TooMany.R) (T.E_TooMany.no "many" (by decide +kernel)) hz hf (pv 2)) (pa_cons (pe_xf (xf_of T.E_TooMany.R) (T.E_TooMany.no "most" (by decide +kernel)) hz hf (pv 2)) pa_nil))))))
        (.cons (c := .ref A.c_BadCount) ⟨rfl, by decide, .inl T.E_BadCount.g⟩ (fun a oe cls d pn hz hf => pss_one (ps_set (i := 1) sc_refusal.nd rfl (Or.inl rfl) (pe_tup (pa_cons pe_str (pa_cons (pe_xf (xf_of T.E_BadCount.R) (T.E_BadCount.no "index" (by decide +kernel)) hz hf (pv 2)) pa_nil)))))
        (.cons (c := .ref A.c_BadLength) ⟨rfl, by decide, .inl T.E_BadLength.g⟩ (fun a oe cls d pn hz hf => pss_one (ps_set (i := 1) sc_refusal.nd rfl (Or.inl rfl) (pe_tup (pa_cons pe_str (pa_cons (pe_xf (xf_of T.E_BadLength.R) (T.E_BadLength.no "index" (by decide +kernel)) hz hf (pv 2)) pa_nil)))))
        (.cons (c := .ref A.c_NotFull) ⟨rfl, by decide, .inl T.E_NotFull.g⟩ (fun a oe cls d pn hz hf => pss_one (ps_set (i := 1) sc_refusal.nd rfl (Or.inl rfl) (pe_tup (pa_cons pe_str (pa_cons (pe_callB (call_isZ hz hf) (by rfl) T.z_isinstance (by decide +kernel) (pa_cons (pv 2) (pa_cons (pe_glob (v := .ref _) rfl T.gj rfl) pa_nil))) pa_nil)))))
        (.cons (c := .ref A.c_BadWord) ⟨rfl, by decide, .inl T.E_BadWord.g⟩ (fun a oe cls d pn hz hf => pss_one (ps_set (i := 1) sc_refusal.nd rfl (Or.inl rfl) (pe_tup (pa_cons pe_str (pa_cons (pe_xf (xf_of T.E_BadWord.R) (T.E_BadWord.no "index" (by decide +kernel)) hz hf (pv 2)) pa_nil)))))
        (.cons (c := .ref A.c_Begins) ⟨rfl, by decide, .inl T.E_Begins.g⟩ (fun a oe cls d pn hz hf => pss_one (ps_set (i := 1) sc_refusal.nd rfl (Or.inl rfl) (pe_tup (pa_cons pe_str (pa_cons (pe_xf (xf_of T.E_Begins.R) (T.E_Begins.no "index" (by decide +kernel)) hz hf (pv 2)) (pa_cons (pe_xf (xf_of T.E_Begins.R) (T.E_Begins.no "other" (by decide +kernel)) hz hf (pv 2)) pa_nil))))))
        .nil)))))))
    (pss_one (ps_ret (pv 1))))), ?_⟩
  refine ⟨(by show 0 ≤ sizeLine; decide), fun t0 nt0 => ?_⟩
  refine ⟨rfl, by rw [upd_ne (ne_of_none hc nt0)]; exact hc, h t0 nt0 _ _ (fun d G i hd q => ?_) (fun d G i hd q => ?_) (fun d G i hd q => ?_) (fun G q => ?_) (fun d G i hd q => ?_) (fun d G i j hd q => ?_) (fun v G q => ⟨_, rfl, q⟩)⟩
  · exact ⟨true, exm_Ec T.E_TooMany, fun _ a na => ⟨_, rfl, rfl, rfl, d, _, _, rfl, hd, lk_what i, _, rfl, rfl, rfl, d, _, _, rfl, hd, lk_many i, _, rfl, rfl, rfl, d, _, _, rfl, hd, lk_most i, (by show 3 ≤ sizeLine; decide), fun t nt => ⟨_, rfl, q t _ (same_new nt) upd_same⟩⟩, fun z => nomatch z⟩
  · exact ⟨false, exm_no T.E_TooMany T.E_BadCount T.n_TooMany_BadCount T.nj_TooMany, fun z => (nomatch z), fun _ => ⟨true, exm_Ec T.E_BadCount, fun _ a na => ⟨_, rfl, rfl, rfl, d, _, _, rfl, hd, lk_index i, (by show 2 ≤ sizeLine; decide), fun t nt => ⟨_, rfl, q t _ (same_new nt) upd_same⟩⟩, fun z => nomatch z⟩⟩
  · exact ⟨false, exm_no T.E_TooMany T.E_BadLength T.n_TooMany_BadLength T.nj_TooMany, fun z => (nomatch z), fun _ => ⟨false, exm_no T.E_BadCount T.E_BadLength T.n_BadCount_BadLength T.nj_BadCount, fun z => (nomatch z), fun _ => ⟨true, exm_Ec T.E_BadLength, fun _ a na => ⟨_, rfl, rfl, rfl, d, _, _, rfl, hd, lk_index i, (by show 2 ≤ sizeLine; decide), fun t nt => ⟨_, rfl, q t _ (same_new nt) upd_same⟩⟩, fun z => nomatch z⟩⟩⟩
  · exact ⟨false, exm_no T.E_TooMany T.E_NotFull T.n_TooMany_NotFull T.nj_TooMany, fun z => (nomatch z), fun _ => ⟨false, exm_no T.E_BadCount T.E_NotFull T.n_BadCount_NotFull T.nj_BadCount, fun z => (nomatch z), fun _ => ⟨false, exm_no T.E_BadLength T.E_NotFull T.n_BadLength_NotFull T.nj_BadLength, fun z => (nomatch z), fun _ => ⟨true, exm_Ec T.E_NotFull, fun _ a na => ⟨_, rfl, A.c_NotFull, .ref A.cj, .ref A.cj, true, rfl, rfl, T.E_NotFull.R, .inl rfl, .own _, kit_Ec T.E_NotFull T.cj T.tj, (by show 2 ≤ sizeLine; decide), fun t nt => ⟨_, rfl, q t _ (same_new nt) upd_same⟩⟩, fun z => nomatch z⟩⟩⟩⟩
  · exact ⟨false, exm_no T.E_TooMany T.E_BadWord T.n_TooMany_BadWord T.nj_TooMany, fun z => (nomatch z), fun _ => ⟨false, exm_no T.E_BadCount T.E_BadWord T.n_BadCount_BadWord T.nj_BadCount, fun z => (nomatch z), fun _ => ⟨false, exm_no T.E_BadLength T.E_BadWord T.n_BadLength_BadWord T.nj_BadLength, fun z => (nomatch z), fun _ => ⟨false, exm_no T.E_NotFull T.E_BadWord T.n_NotFull_BadWord T.nj_NotFull, fun z => (nomatch z), fun _ => ⟨true, exm_Ec T.E_BadWord, fun _ a na => ⟨_, rfl, rfl, rfl, d, _, _, rfl, hd, lk_index i, (by show 2 ≤ sizeLine; decide), fun t nt => ⟨_, rfl, q t _ (same_new nt) upd_same⟩⟩, fun z => nomatch z⟩⟩⟩⟩⟩
  · exact ⟨false, exm_no T.E_TooMany T.E_Begins T.n_TooMany_Begins T.nj_TooMany, fun z => (nomatch z), fun _ => ⟨false, exm_no T.E_BadCount T.E_Begins T.n_BadCount_Begins T.nj_BadCount, fun z => (nomatch z), fun _ => ⟨false, exm_no T.E_BadLength T.E_Begins T.n_BadLength_Begins T.nj_BadLength, fun z => (nomatch z), fun _ => ⟨false, exm_no T.E_NotFull T.E_Begins T.n_NotFull_Begins T.nj_NotFull, fun z => (nomatch z), fun _ => ⟨false, exm_no T.E_BadWord T.E_Begins T.n_BadWord_Begins T.nj_BadWord, fun z => (nomatch z), fun _ => ⟨true, exm_Ec T.E_Begins, fun _ a na => ⟨_, rfl, rfl, rfl, d, _, _, rfl, hd, lk_index2 i j, _, rfl, rfl, rfl, d, _, _, rfl, hd, lk_other i j, (by show 3 ≤ sizeLine; decide), fun t nt => ⟨_, rfl, q t _ (same_new nt) upd_same⟩⟩, fun z => nomatch z⟩⟩⟩⟩⟩⟩
end
end Z

set_option Elab.async false
set_option linter.all false
set_option maxRecDepth 100000
set_option maxHeartbeats 8000000
/-! how lambdas answer: what is due -/
namespace Z
open PySem L2 XV KR LamX
theorem Odd.but {K : PySem.W.Frag} {H G : Hp} {d : Addr} {v : V} (h : Odd K H v) (n : v ≠ .ref d) (b : But d H G) : Odd K G v := by
  cases h with
  | non => exact .non
  | bl b => exact .bl b
  | int i => exact .int i
  | str x => exact .str x
  | lst h => exact .lst (b _ _ (fun z => n (by rw [z])) h)
  | tup h => exact .tup (b _ _ (fun z => n (by rw [z])) h)
  | dct h => exact .dct (b _ _ (fun z => n (by rw [z])) h)
  | ins h I => exact .ins (b _ _ (fun z => n (by rw [z])) h) I
theorem Odd.ext {K : PySem.W.Frag} {H G : Hp} {v : V} (h : Odd K H v) (s : ExtN H G) : Odd K G v := by
  cases h with
  | non => exact .non
  | bl b => exact .bl b
  | int i => exact .int i
  | str x => exact .str x
  | lst h => exact .lst (s _ _ h (fun _ z => nomatch z))
  | tup h => exact .tup (s _ _ h (fun _ z => nomatch z))
  | dct h => exact .dct (s _ _ h (fun _ z => nomatch z))
  | ins h I => exact .ins (s _ _ h (fun _ z => nomatch z)) I
/-- what is told of check_counts(xs) -/
inductive DueC (xs : List V) : List V → Prop
  | many (h : ¬ (2 ≤ xs.length ∧ xs.length ≤ 26)) : DueC xs [.str "signs", .int ((xs.length : Nat) : Int), .int 26]
  | count (h : 2 ≤ xs.length ∧ xs.length ≤ 26) (i : Nat) (b : BadAt xs i) : DueC xs [.str "count", .int (i : Int)]
  | ok (h : 2 ≤ xs.length ∧ xs.length ≤ 26) (a : ∀ x ∈ xs, isC x = true) : DueC xs []
theorem DueC.uniq {xs r r' : List V} (a : DueC xs r) (b : DueC xs r') : r = r' := by
  cases a with
  | many h => cases b with
    | many => rfl
    | count h' => exact absurd h' h
    | ok h' => exact absurd h' h
  | count h i c => cases b with
    | many h' => exact absurd h h'
    | count _ j c' => rw [c.uniq c']
    | ok _ a => exact (c.no a).elim
  | ok h a => cases b with
    | many h' => exact absurd h h'
    | count _ j c' => exact (c'.no a).elim
    | ok => rfl
def spCdT (K : PySem.W.Frag) : Sp := fun vs H Q _ => ∃ (a : Addr) (xs : List V), vs = [.ref a] ∧ H a = some (.lst xs) ∧ xs.length ≤ 1000 ∧ (∀ x ∈ xs, Odd K H x) ∧ ∀ r t G, DueC xs r → Same H G → G t = some (.tup r) → Q (.ref t) G
theorem cdT (K : PySem.W.Frag) : ∀ vs H Q E, spCdT K vs H Q E → spCd K vs H Q E := fun vs H Q E ⟨a, xs, e, h, z, ho, k⟩ =>
  ⟨a, xs, e, h, z, ho, fun n t G s ht => k _ t G (.many n) s ht, fun h i b t G s ht => k _ t G (.count h i b) s ht, fun h a t G s ht => k _ t G (.ok h a) s ht⟩
/-- an error with its fields, and the parts that _law_refusal makes of it -/
inductive Told (A : Ad) : Addr → Option Addr → Hp → List V → Prop
  | many {d : Addr} {G : Hp} {i : Int} (e : G d = some (.xd (manyF i))) : Told A A.c_TooMany (some d) G [.str "signs", .int i, .int 26]
  | count {d : Addr} {G : Hp} {i : Int} (e : G d = some (.xd (indexF i))) : Told A A.c_BadCount (some d) G [.str "count", .int i]
  | len {d : Addr} {G : Hp} {i : Int} (e : G d = some (.xd (indexF i))) : Told A A.c_BadLength (some d) G [.str "length", .int i]
  | full {G : Hp} : Told A A.c_NotFull none G [.str "full", .bl true]
  | word {d : Addr} {G : Hp} {i : Int} (e : G d = some (.xd (indexF i))) : Told A A.c_BadWord (some d) G [.str "word", .int i]
  | begs {d : Addr} {G : Hp} {i j : Int} (e : G d = some (.xd (pairF i j))) : Told A A.c_Begins (some d) G [.str "begins", .int i, .int j]
theorem told_E {A : Ad} {Q : VK} {E : XK} (hM : ∀ d G i, G d = some (.xd (manyF i)) → Ans Q G [.str "signs", .int i, .int 26] → E (.ref A.c_TooMany) (some d) G)
    (hC : ∀ d G i, G d = some (.xd (indexF i)) → Ans Q G [.str "count", .int i] → E (.ref A.c_BadCount) (some d) G)
    (hL : ∀ d G i, G d = some (.xd (indexF i)) → Ans Q G [.str "length", .int i] → E (.ref A.c_BadLength) (some d) G)
    (hF : ∀ G, Ans Q G [.str "full", .bl true] → E (.ref A.c_NotFull) none G)
    (hW : ∀ d G i, G d = some (.xd (indexF i)) → Ans Q G [.str "word", .int i] → E (.ref A.c_BadWord) (some d) G)
    (hB : ∀ d G i j, G d = some (.xd (pairF i j)) → Ans Q G [.str "begins", .int i, .int j] → E (.ref A.c_Begins) (some d) G) : ∀ C d G r, Told A C d G r → Ans Q G r → E (.ref C) d G := by
  intro C d G r ht ha
  cases ht with
  | many e => exact hM _ _ _ e ha
  | count e => exact hC _ _ _ e ha
  | len e => exact hL _ _ _ e ha
  | full => exact hF _ ha
  | word e => exact hW _ _ _ e ha
  | begs e => exact hB _ _ _ _ e ha
/-- check_counts, in a lambda -/
theorem check_use {A : Ad} {K : PySem.W.Frag} {H2 : Hp} {a t0 : Addr} {xs : List V} {Q Qn : VK} {E : XK} (hE : ∀ C d G r, Told A C d G r → Ans Q G r → E (.ref C) d G) (hN : ∀ v G, Q (.ref t0) G → Qn v G) (h0 : H2 t0 = some (.tup [])) (hs : SqE K H2 a xs) (ho : ∀ x ∈ xs, Odd K H2 x)
    (rest : ∀ r, DueC xs r → ∀ t G, Same H2 G → G t = some (.tup r) → Q (.ref t) G) : spCheck K A.c_TooMany A.c_BadCount [.ref a] H2 Qn E :=
  ⟨a, xs, rfl, hs, ho, fun h26 hC G s => hN _ _ (rest [] (.ok h26 hC) t0 G s (s _ _ h0)), fun n d G s e => hE _ _ _ _ (.many e) fun t G' s' ht => rest _ (.many n) t G' (s.trans s') ht,
    fun h26 i b d G s e => hE _ _ _ _ (.count e) fun t G' s' ht => rest _ (.count h26 i b) t G' (s.trans s') ht⟩
/-- Code(..), in a lambda -/
theorem code_use {A : Ad} {K : PySem.W.Frag} {H2 : Hp} {a t0 : Addr} {v : V} {xs : List V} {g : Option (List V)} {Q Qn : VK} {E : XK} (hE : ∀ C d G r, Told A C d G r → Ans Q G r → E (.ref C) d G) (hN : ∀ v G, Q (.ref t0) G → Qn v G) (h0 : H2 t0 = some (.tup [])) (hs : H2 a = some (.lst xs)) (ho : ∀ x ∈ xs, Odd K H2 x) (hg : Giw K H2 v xs.length g)
    (rest : ∀ r, Due xs g r → ∀ t G, Same H2 G → G t = some (.tup r) → Q (.ref t) G) :
    ∀ x dx, H2 x = none → H2 dx = none → dx ≠ x → spInit K A [.ref x, .ref a, v] (upd (upd H2 dx (.own x)) x (.ins A.c_Code dx [])) (fun v' H' => v' = .non ∧ Qn (.ref x) H') E := fun x dx nx ndx ne => by
  have sx : Same H2 (upd (upd H2 dx (.own x)) x (.ins A.c_Code dx [])) := fun b o e => by rw [upd_ne (ne_of_none e nx), upd_ne (ne_of_none e ndx)]; exact e
  have hx : upd (upd H2 dx (.own x)) x (.ins A.c_Code dx []) x = some (.ins A.c_Code dx []) := upd_same
  generalize upd (upd H2 dx (.own x)) x (.ins A.c_Code dx []) = H3 at *
  have err : ∀ {C d G r}, Told A C d G r → Due xs g r → Same H3 G → E (.ref C) d G := fun ht hd s => hE _ _ _ _ ht fun t G' s' h => rest _ hd t G' ((sx.trans s).trans s') h
  have fin : Due xs g [] → ∀ H' (fs : List (Str × V)), But x H3 H' → H' x = some (.ins A.c_Code dx fs) → V.non = V.non ∧ Qn (.ref x) H' := fun hd H' fs bt _ => by
    have s2 : Same H2 H' := fun b o e => bt b o (ne_of_none e nx) (sx _ _ e)
    exact ⟨rfl, hN _ _ (rest _ hd t0 H' s2 (s2 _ _ h0))⟩
  refine ⟨x, dx, a, v, xs, g, rfl, hx, .inl (SqL.of (sx _ _ hs)), fun u hu => (ho u hu).same sx, ?_, ?_⟩
  · cases g with
    | none => exact hg
    | some ws =>
      obtain ⟨b, rfl, hb, hl, hw⟩ := hg
      exact ⟨b, rfl, .inl (SqL.of (sx _ _ hb)), hl, fun u hu => ⟨(hw u hu).1.same sx, (hw u hu).2⟩⟩
  · exact { many := fun n d G s e => err (.many e) (.many n) s
            len := fun h i b d G s e => err (.len e) (.len h i b) s
            full := fun h L e hL hs G s => err .full (.full h L e hL hs) s
            non := fun h L e hL hs hn => fin (.non h L e hL hs hn)
            word := fun h L e hL hs ws hn i b d G s e' => err (.word e') (.word h L e hL hs ws hn i b) s
            begs := fun h L e hL hs ss hn ha i j b d G s e' => err (.begs e') (.begs h L e hL hs ss hn ha i j b) s
            free := fun h L e hL hs ss hn ha f => fin (.free h L e hL hs ss hn ha f) }
/-- Code(lengths) of a full code -/
def spInitG (K : PySem.W.Frag) (A : Ad) : Sp := fun vs H Q _ => ∃ (x dx a : Addr) (L : List Nat), vs = [.ref x, .ref a, .non] ∧ H x = some (.ins A.c_Code dx []) ∧ H a = some (.lst (Ls L)) ∧ 2 ≤ L.length ∧ L.length ≤ 26 ∧ (∀ l ∈ L, 1 ≤ l ∧ l ≤ 25) ∧ (L.map wid).sum = 2 ^ 25 ∧
  ∀ H' fs, But x H H' → H' x = some (.ins A.c_Code dx fs) → Q .non H'
theorem initG (K : PySem.W.Frag) (A : Ad) : ∀ vs H Q E, spInitG K A vs H Q E → spInit K A vs H Q E := fun vs H Q E ⟨x, dx, a, L, e, hx, ha, l2, l26, hL, hs, k⟩ => by
  have ll := Ls_len L
  have h26 : 2 ≤ (Ls L).length ∧ (Ls L).length ≤ 26 := ⟨by omega, by omega⟩
  refine ⟨x, dx, a, .non, Ls L, none, e, hx, .inl (SqL.of ha), fun u hu => ?_, rfl, ?_⟩
  · obtain ⟨i, hi, e⟩ := List.getElem_of_mem hu
    obtain ⟨l, _, e2⟩ := Ls_of (show (Ls L)[i]? = some u by rw [List.getElem?_eq_getElem hi, e])
    rw [e2]; exact .int _
  · exact { many := fun n => absurd h26 n
            len := fun h i b => (b.no hL).elim
            full := fun h M e hM hs' => by rw [← Ls_inj e] at hs'; exact absurd hs hs'
            non := fun h M e hM hs' hn => k
            word := fun h M e hM hs' ws hn => nomatch hn
            begs := fun h M e hM hs' ss hn => nomatch hn
            free := fun h M e hM hs' ss hn => nomatch hn }
def spCheckG (K : PySem.W.Frag) : Sp := fun vs H Q _ => ∃ (a : Addr) (cs : List Int), vs = [.ref a] ∧ SqE K H a (cs.map V.int) ∧ (∀ c ∈ cs, 0 ≤ c) ∧ 2 ≤ cs.length ∧ cs.length ≤ 26 ∧ ∀ G, Same H G → Q .non G
theorem ints_C {cs : List Int} (h : ∀ c ∈ cs, 0 ≤ c) : ∀ x ∈ cs.map V.int, isC x = true := fun x hx => by
  obtain ⟨c, hc, rfl⟩ := List.mem_map.mp hx
  exact decide_eq_true (h c hc)
theorem checkG (K : PySem.W.Frag) (C1 C2 : Addr) : ∀ vs H Q E, spCheckG K vs H Q E → spCheck K C1 C2 vs H Q E := fun vs H Q E ⟨a, cs, e, h, hc, l2, l26, k⟩ =>
  ⟨a, _, e, h, fun x hx => by obtain ⟨c, _, rfl⟩ := List.mem_map.mp hx; exact .int c, fun _ _ => k, fun n => absurd ⟨by rw [List.length_map]; exact l2, by rw [List.length_map]; exact l26⟩ n, fun _ i b => (b.no (ints_C hc)).elim⟩
/-! the answers as data -/
def dat : V → PyData
  | .str x => .str x
  | .int i => .int i
  | .bl b => .bool b
  | _ => .none
theorem DueC.flat {xs r : List V} (h : DueC xs r) : (∃ i j, r = [.str "signs", .int i, .int j]) ∨ (∃ i, r = [.str "count", .int i]) ∨ r = [] := by
  cases h with
  | many => exact .inl ⟨_, _, rfl⟩
  | count _ i _ => exact .inr (.inl ⟨_, rfl⟩)
  | ok => exact .inr (.inr rfl)
theorem Due.flat {xs r : List V} {g : Option (List V)} (h : Due xs g r) : (∃ i j, r = [.str "signs", .int i, .int j]) ∨ (∃ i, r = [.str "length", .int i]) ∨ r = [.str "full", .bl true] ∨ r = [] ∨ (∃ i, r = [.str "word", .int i]) ∨ ∃ i j, r = [.str "begins", .int i, .int j] := by
  cases h with
  | many => exact .inl ⟨_, _, rfl⟩
  | len _ i _ => exact .inr (.inl ⟨_, rfl⟩)
  | full => exact .inr (.inr (.inl rfl))
  | non => exact .inr (.inr (.inr (.inl rfl)))
  | word _ _ _ _ _ _ _ i _ => exact .inr (.inr (.inr (.inr (.inl ⟨_, rfl⟩))))
  | begs _ _ _ _ _ _ _ _ i j _ => exact .inr (.inr (.inr (.inr (.inr ⟨_, _, rfl⟩))))
  | free => exact .inr (.inr (.inr (.inl rfl)))
/-- two tuples with the same parts are equal -/
structure Dat (K : PySem.W.Frag) (r : List V) (D : PyData) : Prop where
  eq : PyData.eqv D D = true
  sh : SeqAt.shaped D = true
  dp : ∀ {H : Hp} {t : Addr}, H t = some (.tup r) → Dp K H (.ref t) D
theorem dat_signs (K : PySem.W.Frag) (i j : Int) : Dat K [.str "signs", .int i, .int j] (.tuple [.str "signs", .int i, .int j]) :=
  ⟨by simp [PyData.eqv, PyData.eqvAll], by simp [SeqAt.shaped, PyData.canLay0, PyData.canLayAll0, PyData.depth, PyData.depthAll]; decide +kernel, fun h => .tup (SqT.of h) (.cons (.str _) (.cons (.int _) (.cons (.int _) .nil)))⟩
theorem dat_begins (K : PySem.W.Frag) (i j : Int) : Dat K [.str "begins", .int i, .int j] (.tuple [.str "begins", .int i, .int j]) :=
  ⟨by simp [PyData.eqv, PyData.eqvAll], by simp [SeqAt.shaped, PyData.canLay0, PyData.canLayAll0, PyData.depth, PyData.depthAll]; decide +kernel, fun h => .tup (SqT.of h) (.cons (.str _) (.cons (.int _) (.cons (.int _) .nil)))⟩
theorem dat_count (K : PySem.W.Frag) (i : Int) : Dat K [.str "count", .int i] (.tuple [.str "count", .int i]) :=
  ⟨by simp [PyData.eqv, PyData.eqvAll], by simp [SeqAt.shaped, PyData.canLay0, PyData.canLayAll0, PyData.depth, PyData.depthAll]; decide +kernel, fun h => .tup (SqT.of h) (.cons (.str _) (.cons (.int _) .nil))⟩
theorem dat_length (K : PySem.W.Frag) (i : Int) : Dat K [.str "length", .int i] (.tuple [.str "length", .int i]) :=
  ⟨by simp [PyData.eqv, PyData.eqvAll], by simp [SeqAt.shaped, PyData.canLay0, PyData.canLayAll0, PyData.depth, PyData.depthAll]; decide +kernel, fun h => .tup (SqT.of h) (.cons (.str _) (.cons (.int _) .nil))⟩
theorem dat_word (K : PySem.W.Frag) (i : Int) : Dat K [.str "word", .int i] (.tuple [.str "word", .int i]) :=
  ⟨by simp [PyData.eqv, PyData.eqvAll], by simp [SeqAt.shaped, PyData.canLay0, PyData.canLayAll0, PyData.depth, PyData.depthAll]; decide +kernel, fun h => .tup (SqT.of h) (.cons (.str _) (.cons (.int _) .nil))⟩
theorem dat_full (K : PySem.W.Frag) : Dat K [.str "full", .bl true] (.tuple [.str "full", .bool true]) :=
  ⟨by simp [PyData.eqv, PyData.eqvAll], by simp [SeqAt.shaped, PyData.canLay0, PyData.canLayAll0, PyData.depth, PyData.depthAll]; decide +kernel, fun h => .tup (SqT.of h) (.cons (.str _) (.cons (.bl _) .nil))⟩
theorem dat_nil (K : PySem.W.Frag) : Dat K [] (.tuple []) :=
  ⟨by simp [PyData.eqv, PyData.eqvAll], by simp [SeqAt.shaped, PyData.canLay0, PyData.canLayAll0, PyData.depth, PyData.depthAll], fun h => .tup (SqT.of h) .nil⟩
theorem DueC.dat (K : PySem.W.Frag) {xs r : List V} (h : DueC xs r) : ∃ D, Dat K r D := by
  rcases h.flat with ⟨i, j, rfl⟩ | ⟨i, rfl⟩ | rfl
  · exact ⟨_, dat_signs K i j⟩
  · exact ⟨_, dat_count K i⟩
  · exact ⟨_, dat_nil K⟩
theorem Due.dat (K : PySem.W.Frag) {xs r : List V} {g : Option (List V)} (h : Due xs g r) : ∃ D, Dat K r D := by
  rcases h.flat with ⟨i, j, rfl⟩ | ⟨i, rfl⟩ | rfl | rfl | ⟨i, rfl⟩ | ⟨i, j, rfl⟩
  · exact ⟨_, dat_signs K i j⟩
  · exact ⟨_, dat_length K i⟩
  · exact ⟨_, dat_full K⟩
  · exact ⟨_, dat_nil K⟩
  · exact ⟨_, dat_word K i⟩
  · exact ⟨_, dat_begins K i j⟩
/-- t != u, both with the same parts -/
theorem ne_same {K : PySem.W.Frag} {r : List V} {H : Hp} {t u : Addr} {Q : VK} (h : ∃ D, Dat K r D) (ht : H t = some (.tup r)) (hu : H u = some (.tup r)) (q : Q (.bl false) H) : rNeD K (.ref t) (.ref u) H Q := by
  obtain ⟨D, hD⟩ := h
  exact ⟨D, D, hD.dp ht, hD.dp hu, hD.sh, hD.sh, by rw [hD.eq]; exact q⟩
theorem eq_same {K : PySem.W.Frag} {r : List V} {H : Hp} {t u : Addr} {Q : VK} (h : ∃ D, Dat K r D) (ht : H t = some (.tup r)) (hu : H u = some (.tup r)) (q : Q (.bl true) H) : rEqD K (.ref t) (.ref u) H Q := by
  obtain ⟨D, hD⟩ := h
  exact ⟨D, D, hD.dp ht, hD.dp hu, hD.sh, hD.sh, by rw [hD.eq]; exact q⟩
end Z

set_option Elab.async false
set_option linter.all false
set_option maxRecDepth 100000
set_option maxHeartbeats 8000000
/-! the law -/
namespace Z
open PySem L2 XV KR LamX
theorem cw_of {L : List Nat} {i : Nat} {x : List Nat} (h : (cw L)[i]? = some x) : ∃ l, L[i]? = some l ∧ x = word (pr L) (l, i) ∧ (l, i) ∈ pr L := by
  unfold cw at h
  rw [List.getElem?_map, pr_at, Option.map_map, Option.map_eq_some_iff] at h
  obtain ⟨l, e, rfl⟩ := h
  refine ⟨l, e, rfl, List.mem_of_getElem? (i := i) ?_⟩
  rw [pr_at, e]; rfl
theorem cw_ok {L : List Nat} (G : Good L) : WOk (cw L) L where
  len := cw_len L
  bit := fun i x l hx hl => by
    obtain ⟨l', h1, rfl, _⟩ := cw_of hx
    rw [hl] at h1
    obtain rfl := Option.some.inj h1
    exact ⟨word_len _ _, bits_01 _ _⟩
  free := fun i j x y hx hy hij => by
    obtain ⟨l, h1, rfl, m1⟩ := cw_of hx
    obtain ⟨k, h2, rfl, m2⟩ := cw_of hy
    refine ⟨fun e => ?_, fun e => ?_⟩
    · have := congrArg Prod.snd (word_free G.kr m1 m2 e)
      have : i = j := this
      omega
    · have := congrArg Prod.snd (word_free G.kr m2 m1 e)
      have : j = i := this
      omega
theorem tl_law {A : Ad} : (A.p_law, qL "law") ∈ TL A := by unfold TL; simp
theorem tlu_law {A : Ad} : ∀ p ∈ TL A, p.1 = A.p_law → p.2 = qL "law" := by
  intro p hp
  unfold TL at hp
  simp only [List.mem_cons, List.not_mem_nil, or_false] at hp
  subst hp
  exact fun _ => rfl
theorem _root_.LamX.Tabs.but {T : List (Addr × Str)} {H G : Hp} {d : Addr} {kvs : List (Key × V)} (t : Tabs T H) (hd : H d = some (.dK kvs)) (bt : But d H G) : Tabs T G := fun p hp => by
  obtain ⟨ps, h1, h2, h3⟩ := t p hp
  refine ⟨ps, bt _ _ (ne_of h1 hd (fun z => nomatch z)) h1, h2, fun pos cv hc => ?_⟩
  obtain ⟨c, e1, e2⟩ := h3 pos cv hc
  exact ⟨c, e1, bt _ _ (ne_of e2 hd (fun z => by unfold CodeO at z; cases z)) e2⟩
theorem _root_.LamX.Tabs.pen {T : List (Addr × Str)} {H G : Hp} {d l : Addr} {k : Nat} (t : Tabs T H) (pen : Pen H d l k) (bt : But d H G) : Tabs T G := let ⟨_, e⟩ := pen.some; t.but e bt
theorem Pen.ext {H G : Hp} {d l : Addr} {k : Nat} (h : Pen H d l k) (s : ExtN H G) : Pen G d l k := by
  obtain ⟨ns, m, h1, h2, h3, h4⟩ := h
  exact ⟨ns, m, s _ _ h1 (fun _ z => nomatch z), s _ _ h2 (fun _ z => nomatch z), h3, h4⟩
def isAt : V → Bool
  | .non => true
  | .bl _ => true
  | .int _ => true
  | .str _ => true
  | _ => false
theorem odd_flat {K : PySem.W.Frag} {G : Hp} {x : V} (h : isAt x = true) : Odd K G x ∧ ∀ a, x ≠ .ref a := by
  cases x <;> first | (cases h; done) | exact ⟨by constructor, fun _ z => nomatch z⟩
theorem call_tupK {X : Cx} {K : PySem.W.Frag} (hK : X.K = K) : CallR X (.type "tuple") (fun xs H Q => ∃ p ys, xs = [.ref p] ∧ ((SqL K H p ys ∧ ∀ l, H l = none → Q (.ref l) (upd H l (.tup ys))) ∨ (SqT K H p ys ∧ Q (.ref p) H))) := by
  subst hK
  exact call_tuple_of
theorem rep_flat (n : Nat) (x : V) : (List.replicate n [x]).flatten = List.replicate n x := by
  induction n with
  | zero => rfl
  | succ n ih => rw [List.replicate_succ, List.flatten_cons, ih, List.replicate_succ]; rfl
/-- values that are odd, apart from the pen -/
def OddD (K : PySem.W.Frag) (H : Hp) (d : Addr) (xs : List V) : Prop := ∀ x ∈ xs, Odd K H x ∧ x ≠ .ref d
theorem OddD.but {K : PySem.W.Frag} {H G : Hp} {d : Addr} {xs : List V} (h : OddD K H d xs) (b : But d H G) : OddD K G d xs := fun x hx => ⟨(h x hx).1.but (h x hx).2 b, (h x hx).2⟩
theorem OddD.ext {K : PySem.W.Frag} {H G : Hp} {d : Addr} {xs : List V} (h : OddD K H d xs) (b : ExtN H G) : OddD K G d xs := fun x hx => ⟨(h x hx).1.ext b, (h x hx).2⟩
theorem OddD.same {K : PySem.W.Frag} {H G : Hp} {d : Addr} {xs : List V} (h : OddD K H d xs) (b : Same H G) : OddD K G d xs := h.ext fun x o e _ => b x o e
theorem OddD.ints (K : PySem.W.Frag) (H : Hp) (d : Addr) (cs : List Int) : OddD K H d (cs.map V.int) := fun x hx => by
  obtain ⟨c, _, rfl⟩ := List.mem_map.mp hx
  exact ⟨.int c, fun z => nomatch z⟩
theorem OddD.of {K : PySem.W.Frag} {H : Hp} {d : Addr} {ys xs os : List V} (h1 : OddD K H d xs) (h2 : OddD K H d os) (h : ∀ y ∈ ys, y ∈ xs ∨ y ∈ os) : OddD K H d ys := fun y hy => (h y hy).elim (h1 y) (h2 y)
theorem OddD.odd {K : PySem.W.Frag} {H : Hp} {d : Addr} {xs : List V} (h : OddD K H d xs) : ∀ x ∈ xs, Odd K H x := fun x hx => (h x hx).1
def spLaw (K : PySem.W.Frag) (A : Ad) : Sp := fun vs H Q _ => ∃ (a : Addr) (ns : List Int), vs = [.ref a] ∧ SqL K H a (ns.map V.int) ∧ ns.length ≤ 63 ∧ Tabs (TL A) H ∧ ∀ H', Q (.bl true) H'
section
variable {P : Program} {w : World} {K : PySem.W.Frag} {mg : Str → Option Value} {base : Heap} {A : Ad}
theorem sc_law : FnScope ["_law_script", "_law_pen", "_law_turn", "_law_many", "_law_counts", "_law_lengths", "_law_bad", "_law_odd", "_law_words_here", "_law_at", "_law_other", "_law_one", "_law_told", "_law_long", "_law_k"] ["_law_script"] (defScope s_law) := ⟨rfl, rfl, rfl, by decide +kernel, rfl, by decide +kernel, by decide +kernel⟩
theorem ok_law (T : Txt K mg A) (TB : TabB base mg A.k_law A.p_law) : FnOk P w K mg base CX0 10 A.a_law A.d_law ["_law_script"] (spLaw K A) := by
  have G_penof := ok_pen (P := P) (w := w) (base := base) T
  have G_draw := ok_draw (P := P) (w := w) (base := base) T
  have G_pick := ok_pick (P := P) (w := w) (base := base) T
  have G_countsof := ok_countsof (P := P) (w := w) (base := base) T
  have G_lof := ok_lof (P := P) (w := w) (base := base) T
  have G_words := ok_words (P := P) (w := w) (base := base) T
  have G_spoilt := ok_spoilt (P := P) (w := w) (base := base) T
  have G_countsdue := (ok_countsdue (P := P) (w := w) (base := base) T).imp (cdT K)
  have G_codedue := ok_codedue (P := P) (w := w) (base := base) T
  have G_checkcounts := ok_checkcounts (P := P) (w := w) (base := base) T
  have G_checkG := G_checkcounts.imp (checkG K A.c_TooMany A.c_BadCount)
  have G_init := ok_init (P := P) (w := w) (base := base) T
  have G_initG := G_init.imp (initG K A)
  have G_r12 := ok_r12 (P := P) (w := w) (base := base) T
  refine T.F_law.ok sc_law (fun vs H Q E h => ?_) (fun Ar outer s H vs Q E hr h => ?_)
  · obtain ⟨a, ns, rfl, _⟩ := h; rfl
  · obtain ⟨a, ns, rfl, hs, hn, tb, kq⟩ := h
    refine ⟨_, (pss_cons (ps_set (i := 1) sc_law.nd rfl (Or.inl rfl) (pe_call G_penof (hr.mono (by decide)) (by rfl) T.g_penof T.F_penof.kp T.b_penof .nil pass0 (pa_cons (pv 0) pa_nil)))
      (pss_cons (ps_for PassesOwn.never rfl (pi_range1 (by rfl) T.z_range (pa_cons pe_int pa_nil)) (pg_name (i := 2) sc_law.nd rfl (Or.inl rfl))
         (pss_cons (ps_set (i := 3) sc_law.nd rfl (Or.inl rfl) (pe_op op_add pe_int (pe_call G_draw (hr.mono (by decide)) (by rfl) T.g_draw T.F_draw.kp T.b_draw .nil pass0 (pa_cons (pv 1) (pa_cons pe_int pa_nil)))))
         (pss_cons (ps_par (i := 4) (j := 5) (by rfl) sc_law.nd rfl rfl (by decide) rfl rfl (pa_cons (pe_call G_countsof (hr.mono (by decide)) (by rfl) T.g_countsof T.F_countsof.kp T.b_countsof .nil pass0 (pa_cons (pv 1) (pa_cons (pv 3) pa_nil))) (pa_cons (pe_call G_lof (hr.mono (by decide)) (by rfl) T.g_lof T.F_lof.kp T.b_lof .nil pass0 (pa_cons (pv 1) (pa_cons (pv 3) pa_nil))) pa_nil)) (by rfl))
         (pss_cons (ps_set (i := 6) sc_law.nd rfl (Or.inr rfl) (pe_call G_spoilt (hr.mono (by decide)) (by rfl) T.g_spoilt T.F_spoilt.kp T.b_spoilt .nil pass0 (pa_cons (pv 1) (pa_cons (pv 4) (pa_cons (pe_lst (pa_cons (pe_un un_neg pe_int) (pa_cons pe_bl (pa_cons pe_non (pa_cons pe_str (pa_cons (pe_lst (pa_cons pe_int pa_nil)) (pa_cons pe_int (pa_cons (pe_tup (pa_cons pe_int pa_nil)) (pa_cons pe_dnewK pa_nil))))))))) pa_nil)))))
         (pss_cons (ps_if (PW.pt (pw_or (pt_cmpR (op_neD hr.units) (pe_lamcallS (k := 7) (T := TL A) (Ng := ["_law_call", "_law_told", "e"]) (TT := TRef A) T.F_refusal (by rfl) T.g_refusal T.b_refusal sc_refusal rfl (Or.inl rfl) (fun cdv => ref_gives T) TB rfl tl_law tlu_law (hr.mono (by decide)) (lamS_by (show lamSB (defScope s_law) _ = true by decide +kernel)) rfl (fun _ _ _ _ _ => rfl) (fun Ar2 ou2 s2 H2 E2 f2 c2 hr2 => (pe_call G_checkcounts (hr2.mono (by decide)) (by rfl) T.g_checkcounts T.F_checkcounts.kp T.b_checkcounts .nil (passes_call (takes_of rfl rfl rfl rfl) (fun _ _ _ _ h => h)) (pa_cons (pv 6) pa_nil)))) (pe_call G_countsdue (hr.mono (by decide)) (by rfl) T.g_countsdue T.F_countsdue.kp T.b_countsdue .nil pass0 (pa_cons (pv 6) pa_nil)) (nomark _)) (pw_or1 (pt_cmpR op_notN (pe_call G_checkG (hr.mono (by decide)) (by rfl) T.g_checkcounts T.F_checkcounts.kp T.b_checkcounts .nil passX (pa_cons (pv 4) pa_nil)) pe_non (nomark _))))) (pss_one (ps_ret pe_bl))
           pss_nil)
         (pss_cons (ps_if (pt_cmpR (op_neD hr.units) (pe_lamcallS (k := 7) (T := TL A) (Ng := ["_law_call", "_law_told", "e"]) (TT := TRef A) T.F_refusal (by rfl) T.g_refusal T.b_refusal sc_refusal rfl (Or.inl rfl) (fun cdv => ref_gives T) TB rfl tl_law tlu_law (hr.mono (by decide)) (lamS_by (show lamSB (defScope s_law) _ = true by decide +kernel)) rfl (fun _ _ _ _ _ => rfl) (fun Ar2 ou2 s2 H2 E2 f2 c2 hr2 => (pe_call G_checkcounts (hr2.mono (by decide)) (by rfl) T.g_checkcounts T.F_checkcounts.kp T.b_checkcounts .nil (passes_call (takes_of rfl rfl rfl rfl) (fun _ _ _ _ h => h)) (pa_cons (pe_callTy (T := "tuple") (call_tupK (K := K) rfl) (by rfl) T.z_tuple (by decide +kernel) (pa_cons (pv 6) pa_nil)) pa_nil)))) (pe_call G_countsdue (hr.mono (by decide)) (by rfl) T.g_countsdue T.F_countsdue.kp T.b_countsdue .nil pass0 (pa_cons (pv 6) pa_nil)) (nomark _)) (pss_one (ps_ret pe_bl))
           pss_nil)
         (pss_cons (ps_set (i := 7) sc_law.nd rfl (Or.inl rfl) (pe_lst (pa_cons pe_int (pa_cons (pe_un un_neg pe_int) (pa_cons pe_int (pa_cons pe_bl (pa_cons pe_non (pa_cons pe_str (pa_cons pe_int (pa_cons pe_int (pa_cons pe_int (pa_cons (pe_lst (pa_cons pe_int pa_nil)) (pa_cons (pe_op op_pow pe_int pe_int) (pa_cons (pe_make T.Co.M G_initG (hr.mono (by decide)) (by rfl) T.g_Code (Classical.choose_spec T.b_init1).2 (Classical.choose_spec T.b_init1).1 passX (pa_cons (pe_lst (pa_cons pe_int (pa_cons pe_int pa_nil))) pa_nil)) (pa_cons (pe_make T.Ro.M G_r12 (hr.mono (by decide)) (by rfl) T.g_Ratio T.b_rinit2 .nil pass0 (pa_cons pe_int (pa_cons pe_int pa_nil))) pa_nil)))))))))))))))
         (pss_cons (ps_set (i := 6) sc_law.nd rfl (Or.inr rfl) (pe_call G_spoilt (hr.mono (by decide)) (by rfl) T.g_spoilt T.F_spoilt.kp T.b_spoilt .nil pass0 (pa_cons (pv 1) (pa_cons (pv 5) (pa_cons (pv 7) pa_nil)))))
         (pss_cons (ps_if (PW.pt (pw_and (pt_cmpR op_eq (pe_call G_draw (hr.mono (by decide)) (by rfl) T.g_draw T.F_draw.kp T.b_draw .nil pass0 (pa_cons (pv 1) (pa_cons pe_int pa_nil))) pe_int (nomark _)) (pw_and1 (pt_cmpR (op_neE hr.units) (pv 6) (pe_lst pa_nil) (nomark _))))) (pss_one (ps_set (i := 6) sc_law.nd rfl (Or.inr rfl) (pe_call G_spoilt (hr.mono (by decide)) (by rfl) T.g_spoilt T.F_spoilt.kp T.b_spoilt .nil pass0 (pa_cons (pv 1) (pa_cons (pv 6) (pa_cons (pv 7) pa_nil))))))
           pss_nil)
         (pss_cons (ps_if (pt_cmpR (op_neD hr.units) (pe_lamcallS (k := 7) (T := TL A) (Ng := ["_law_call", "_law_told", "e"]) (TT := TRef A) T.F_refusal (by rfl) T.g_refusal T.b_refusal sc_refusal rfl (Or.inl rfl) (fun cdv => ref_gives T) TB rfl tl_law tlu_law (hr.mono (by decide)) (lamS_by (show lamSB (defScope s_law) _ = true by decide +kernel)) rfl (fun _ _ _ _ _ => rfl) (fun Ar2 ou2 s2 H2 E2 f2 c2 hr2 => (pe_make T.Co.M G_init (hr2.mono (by decide)) (by rfl) T.g_Code (Classical.choose_spec T.b_init1).2 (Classical.choose_spec T.b_init1).1 (passes_call (takes_of rfl rfl rfl rfl) (fun _ _ _ _ h => h)) (pa_cons (pv 6) pa_nil)))) (pe_call G_codedue (hr.mono (by decide)) (by rfl) T.g_codedue T.F_codedue.kp T.b_codedue .nil pass0 (pa_cons (pv 6) (pa_cons pe_non pa_nil))) (nomark _)) (pss_one (ps_ret pe_bl))
           pss_nil)
         (pss_cons (ps_asg (pe_tup (pa_cons (pe_callTy call_list_of (by rfl) T.z_list (by decide +kernel) (pa_cons (pe_call G_words (hr.mono (by decide)) (by rfl) T.g_words T.F_words.kp T.b_words .nil pass0 (pa_cons (pv 5) pa_nil)) pa_nil)) (pa_cons (pe_call G_draw (hr.mono (by decide)) (by rfl) T.g_draw T.F_draw.kp T.b_draw .nil pass0 (pa_cons (pv 1) (pa_cons (pv 3) pa_nil))) pa_nil))) (pg_tup (by rfl) (pgs_cons (pg_name (i := 8) sc_law.nd rfl (Or.inr rfl)) (pgs_cons (pg_name (i := 9) sc_law.nd rfl (Or.inl rfl)) pgs_nil))))
         (pss_cons (ps_asg (pe_call G_pick (hr.mono (by decide)) (by rfl) T.g_pick T.F_pick.kp T.b_pick .nil pass0 (pa_cons (pv 1) (pa_cons (pe_lst (pa_cons pe_non (pa_cons pe_str (pa_cons pe_str (pa_cons pe_int (pa_cons (pe_op op_repS pe_str (pe_ix ix_list (pv 5) (pv 9) (fun _ _ => rfl))) (pa_cons (pe_op op_repS pe_str (pe_ix ix_list (pv 5) (pv 9) (fun _ _ => rfl))) (pa_cons (pe_ix ix_list (pv 8) pe_int (fun _ _ => rfl)) (pa_cons (pe_revS (pe_ix ix_list (pv 8) (pv 9) (fun _ _ => rfl))) pa_nil))))))))) pa_nil))) (pg_sub (pv 8) (pv 9) set_list))
         (pss_cons (ps_set (i := 10) sc_law.nd rfl (Or.inl rfl) (pe_call G_draw (hr.mono (by decide)) (by rfl) T.g_draw T.F_draw.kp T.b_draw .nil pass0 (pa_cons (pv 1) (pa_cons (pv 3) pa_nil))))
         (pss_cons (ps_asg (pe_call G_pick (hr.mono (by decide)) (by rfl) T.g_pick T.F_pick.kp T.b_pick .nil pass0 (pa_cons (pv 1) (pa_cons (pe_lst (pa_cons (pe_ix ix_list (pv 8) (pv 10) (fun _ _ => rfl)) (pa_cons (pe_ix ix_list (pv 8) (pv 10) (fun _ _ => rfl)) (pa_cons (pe_op op_repS pe_str (pe_ix ix_list (pv 5) (pv 10) (fun _ _ => rfl))) (pa_cons (pe_lst (pa_cons pe_str pa_nil)) (pa_cons (pe_op op_repS pe_str (pe_ix ix_list (pv 5) (pv 10) (fun _ _ => rfl))) pa_nil)))))) pa_nil))) (pg_sub (pv 8) (pv 10) set_list))
         (pss_one (ps_for PassesOwn.never rfl (pi_list (pe_lst (pa_cons (pv 5) (pa_cons (pv 6) pa_nil)))) (pg_name (i := 11) sc_law.nd rfl (Or.inr rfl))
            (pss_cons (ps_set (i := 12) sc_law.nd rfl (Or.inl rfl) (pe_ifExp (pt_cmpR op_eq (pe_callB call_len_seq (by rfl) T.z_len PySem.boot_len (pa_cons (pv 11) pa_nil)) (pv 3) (nomark _)) (pe_lamcallS (k := 7) (T := TL A) (Ng := ["_law_call", "_law_told", "e"]) (TT := TRef A) T.F_refusal (by rfl) T.g_refusal T.b_refusal sc_refusal rfl (Or.inl rfl) (fun cdv => ref_gives T) TB rfl tl_law tlu_law (hr.mono (by decide)) (lamS_by (show lamSB (defScope s_law) _ = true by decide +kernel)) rfl (fun _ _ _ _ _ => rfl) (fun Ar2 ou2 s2 H2 E2 f2 c2 hr2 => (pe_make T.Co.M G_init (hr2.mono (by decide)) (by rfl) T.g_Code T.b_init2 .nil (passes_call (takes_of rfl rfl rfl rfl) (fun _ _ _ _ h => h)) (pa_cons (pv 11) (pa_cons (pv 8) pa_nil))))) pe_non))
            (pss_one (ps_if (PW.pt (pw_and (pt_cmpR op_notN (pv 12) pe_non (nomark _)) (pw_and1 (pt_cmpR (op_neD hr.units) (pv 12) (pe_call G_codedue (hr.mono (by decide)) (by rfl) T.g_codedue T.F_codedue.kp T.b_codedue .nil pass0 (pa_cons (pv 11) (pa_cons (pv 8) pa_nil))) (nomark _))))) (pss_one (ps_ret pe_bl))
              pss_nil)))))))))))))))))))
      (pss_cons (ps_set (i := 13) sc_law.nd rfl (Or.inr rfl) (pe_op op_cat (pe_lc (own := [("_law_k", 14)]) (by rfl) sc_law.nd (pi_range1 (by rfl) T.z_range (pa_cons pe_int pa_nil)) (blkOk_by (own := [("_law_k", 14)]) (N := ["_law_script", "_law_pen", "_law_turn", "_law_many", "_law_counts", "_law_lengths", "_law_bad", "_law_odd", "_law_words_here", "_law_at", "_law_other", "_law_one", "_law_told", "_law_long", "_law_k"]) (sc := defScope s_law) (by decide +kernel)) (fun _ _ _ _ _ => (pg_name (i := 14) sc_law.nd rfl (Or.inl rfl))) (fun _ _ _ _ _ => pts_nil) (fun _ _ _ _ _ => (pe_op op_add (pv 14) pe_int))) (pe_lst (pa_cons pe_int pa_nil))))
      (pss_cons (ps_if (pt_cmpR (op_neD hr.units) (pe_lamcallS (k := 7) (T := TL A) (Ng := ["_law_call", "_law_told", "e"]) (TT := TRef A) T.F_refusal (by rfl) T.g_refusal T.b_refusal sc_refusal rfl (Or.inl rfl) (fun cdv => ref_gives T) TB rfl tl_law tlu_law (hr.mono (by decide)) (lamS_by (show lamSB (defScope s_law) _ = true by decide +kernel)) rfl (fun _ _ _ _ _ => rfl) (fun Ar2 ou2 s2 H2 E2 f2 c2 hr2 => (pe_make T.Co.M G_init (hr2.mono (by decide)) (by rfl) T.g_Code (Classical.choose_spec T.b_init1).2 (Classical.choose_spec T.b_init1).1 (passes_call (takes_of rfl rfl rfl rfl) (fun _ _ _ _ h => h)) (pa_cons (pv 13) pa_nil)))) (pe_tup pa_nil) (nomark _)) (pss_one (ps_ret pe_bl))
        pss_nil)
      (pss_cons (ps_if (pt_cmpR (op_neD hr.units) (pe_lamcallS (k := 7) (T := TL A) (Ng := ["_law_call", "_law_told", "e"]) (TT := TRef A) T.F_refusal (by rfl) T.g_refusal T.b_refusal sc_refusal rfl (Or.inl rfl) (fun cdv => ref_gives T) TB rfl tl_law tlu_law (hr.mono (by decide)) (lamS_by (show lamSB (defScope s_law) _ = true by decide +kernel)) rfl (fun _ _ _ _ _ => rfl) (fun Ar2 ou2 s2 H2 E2 f2 c2 hr2 => (pe_call G_checkcounts (hr2.mono (by decide)) (by rfl) T.g_checkcounts T.F_checkcounts.kp T.b_checkcounts .nil (passes_call (takes_of rfl rfl rfl rfl) (fun _ _ _ _ h => h)) (pa_cons (pe_op op_rep (pe_lst (pa_cons pe_int pa_nil)) pe_int) pa_nil)))) (pe_tup pa_nil) (nomark _)) (pss_one (ps_ret pe_bl))
        pss_nil)
      (pss_cons (ps_if (pt_cmpR (op_neD hr.units) (pe_lamcallS (k := 7) (T := TL A) (Ng := ["_law_call", "_law_told", "e"]) (TT := TRef A) T.F_refusal (by rfl) T.g_refusal T.b_refusal sc_refusal rfl (Or.inl rfl) (fun cdv => ref_gives T) TB rfl tl_law tlu_law (hr.mono (by decide)) (lamS_by (show lamSB (defScope s_law) _ = true by decide +kernel)) rfl (fun _ _ _ _ _ => rfl) (fun Ar2 ou2 s2 H2 E2 f2 c2 hr2 => (pe_make T.Co.M G_init (hr2.mono (by decide)) (by rfl) T.g_Code (Classical.choose_spec T.b_init1).2 (Classical.choose_spec T.b_init1).1 (passes_call (takes_of rfl rfl rfl rfl) (fun _ _ _ _ h => h)) (pa_cons (pe_op op_cat (pv 13) (pe_lst (pa_cons pe_int pa_nil))) pa_nil)))) (pe_tup (pa_cons pe_str (pa_cons pe_int (pa_cons pe_int pa_nil)))) (nomark _)) (pss_one (ps_ret pe_bl))
        pss_nil)
      (pss_cons (ps_if (pt_cmpR (op_neD hr.units) (pe_lamcallS (k := 7) (T := TL A) (Ng := ["_law_call", "_law_told", "e"]) (TT := TRef A) T.F_refusal (by rfl) T.g_refusal T.b_refusal sc_refusal rfl (Or.inl rfl) (fun cdv => ref_gives T) TB rfl tl_law tlu_law (hr.mono (by decide)) (lamS_by (show lamSB (defScope s_law) _ = true by decide +kernel)) rfl (fun _ _ _ _ _ => rfl) (fun Ar2 ou2 s2 H2 E2 f2 c2 hr2 => (pe_make T.Co.M G_init (hr2.mono (by decide)) (by rfl) T.g_Code (Classical.choose_spec T.b_init1).2 (Classical.choose_spec T.b_init1).1 (passes_call (takes_of rfl rfl rfl rfl) (fun _ _ _ _ h => h)) (pa_cons (pe_op op_rep (pe_lst (pa_cons pe_non pa_nil)) pe_int) pa_nil)))) (pe_tup (pa_cons pe_str (pa_cons pe_int (pa_cons pe_int pa_nil)))) (nomark _)) (pss_one (ps_ret pe_bl))
        pss_nil)
      (pss_cons (ps_if (pt_cmpR (op_neD hr.units) (pe_lamcallS (k := 7) (T := TL A) (Ng := ["_law_call", "_law_told", "e"]) (TT := TRef A) T.F_refusal (by rfl) T.g_refusal T.b_refusal sc_refusal rfl (Or.inl rfl) (fun cdv => ref_gives T) TB rfl tl_law tlu_law (hr.mono (by decide)) (lamS_by (show lamSB (defScope s_law) _ = true by decide +kernel)) rfl (fun _ _ _ _ _ => rfl) (fun Ar2 ou2 s2 H2 E2 f2 c2 hr2 => (pe_make T.Co.M G_init (hr2.mono (by decide)) (by rfl) T.g_Code (Classical.choose_spec T.b_init1).2 (Classical.choose_spec T.b_init1).1 (passes_call (takes_of rfl rfl rfl rfl) (fun _ _ _ _ h => h)) (pa_cons (pe_lst (pa_cons pe_non pa_nil)) pa_nil)))) (pe_tup (pa_cons pe_str (pa_cons pe_int (pa_cons pe_int pa_nil)))) (nomark _)) (pss_one (ps_ret pe_bl))
        pss_nil)
      (pss_one (ps_ret (pe_cmpR (op_eqD hr.units) (pe_lamcallS (k := 7) (T := TL A) (Ng := ["_law_call", "_law_told", "e"]) (TT := TRef A) T.F_refusal (by rfl) T.g_refusal T.b_refusal sc_refusal rfl (Or.inl rfl) (fun cdv => ref_gives T) TB rfl tl_law tlu_law (hr.mono (by decide)) (lamS_by (show lamSB (defScope s_law) _ = true by decide +kernel)) rfl (fun _ _ _ _ _ => rfl) (fun Ar2 ou2 s2 H2 E2 f2 c2 hr2 => (pe_make T.Co.M G_init (hr2.mono (by decide)) (by rfl) T.g_Code (Classical.choose_spec T.b_init1).2 (Classical.choose_spec T.b_init1).1 (passes_call (takes_of rfl rfl rfl rfl) (fun _ _ _ _ h => h)) (pa_cons (pe_lst (pa_cons pe_int pa_nil)) pa_nil)))) (pe_tup (pa_cons pe_str (pa_cons pe_int (pa_cons pe_int pa_nil)))) (nomark _)))))))))))), ?_⟩
    refine ⟨_, rfl, a, ns, rfl, hs, hn, fun d l H0 pen0 s0 _ => ?_⟩
    refine ⟨4, rfl, by decide, by decide, ?_⟩
    refine for_range (lo := 0) (n := (4 : Int).toNat) (fun j σ G => (∃ z2 z3 z4 z5 z6 z7 z8 z9 z10 z11 z12 z13 z14, σ = [some (.ref a), some (.ref d), z2, z3, z4, z5, z6, z7, z8, z9, z10, z11, z12, z13, z14]) ∧ (∃ k, k ≤ 300 * j ∧ Pen G d l k) ∧ Tabs (TL A) G) ⟨⟨_, _, _, _, _, _, _, _, _, _, _, _, _, rfl⟩, ⟨0, Nat.le_refl _, pen0⟩, tb.ext s0⟩ (fun j σ G hj hP => ?_) (fun σ G hP => ?_)
    · obtain ⟨⟨z2, z3, z4, z5, z6, z7, z8, z9, z10, z11, z12, z13, z14, rfl⟩, ⟨k, hk, pen⟩, tb⟩ := hP
      have j4 : j < 4 := hj
      refine ⟨_, rfl, d, l, 6, k, rfl, pen, by decide, by decide, by omega, fun v1 G1 k1 v1a v1b hk1 pen1 bt1 => ?_⟩
      obtain ⟨m, rfl⟩ : ∃ m : Nat, v1 = (m : Int) := ⟨v1.toNat, (Int.toNat_of_nonneg v1a).symm⟩
      refine ⟨_, _, rfl, rfl, ?_⟩
      refine ⟨_, rfl, _, rfl, d, l, k1, 2 + m, rfl, pen1, by omega, by omega, fun p cs G2 k2 hcl hcn hk2 pen2 hp2 bt2 => ?_⟩
      refine ⟨_, rfl, _, rfl, d, l, 2 + m, k2, rfl, pen2, by omega, by omega, by omega, fun q G3 k3 L hk3 pen3 bt3 nq hq3 GL hLl => ⟨_, _, rfl, ?_⟩⟩
      have pd : p ≠ d := let ⟨x, e⟩ := pen2.some; ne_of hp2 e (fun z => nomatch z)
      have qd : q ≠ d := let ⟨x, e⟩ := pen3.some; ne_of hq3 e (fun z => nomatch z)
      have hp3 := bt3 _ _ pd hp2
      have tb3 := ((tb.pen pen bt1).pen pen1 bt2).pen pen2 bt3
      have c2 : 2 ≤ cs.length := by omega
      have c26 : cs.length ≤ 26 := by omega
      clear bt1 bt2 bt3 pen1 pen2 pen
      refine ⟨_, rfl, _, rfl, _, rfl, (by show 1 ≤ sizeLine; decide), fun e1 n_e1 => ?_⟩
      have s_e1 : Same G3 (upd G3 e1 (.lst [V.int 3])) := same_new n_e1
      have h_e1 : upd G3 e1 (.lst [V.int 3]) e1 = some (.lst [V.int 3]) := upd_same
      generalize upd G3 e1 (.lst [V.int 3]) = G4 at *
      refine ⟨(by show 1 ≤ sizeLine; decide), fun e2 n_e2 => ?_⟩
      have s_e2 : Same G4 (upd G4 e2 (.tup [V.int 1])) := same_new n_e2
      have h_e2 : upd G4 e2 (.tup [V.int 1]) e2 = some (.tup [V.int 1]) := upd_same
      generalize upd G4 e2 (.tup [V.int 1]) = G5 at *
      intro e3 n_e3
      have s_e3 : Same G5 (upd G5 e3 (.dK [])) := same_new n_e3
      have h_e3 : upd G5 e3 (.dK []) e3 = some (.dK []) := upd_same
      generalize upd G5 e3 (.dK []) = G6 at *
      refine ⟨(by show 8 ≤ sizeLine; decide), fun e4 n_e4 => ?_⟩
      have s_e4 : Same G6 (upd G6 e4 (.lst [V.int (-1), V.bl true, V.non, V.str "3", V.ref e1, V.int 0, V.ref e2, V.ref e3])) := same_new n_e4
      have h_e4 : upd G6 e4 (.lst [V.int (-1), V.bl true, V.non, V.str "3", V.ref e1, V.int 0, V.ref e2, V.ref e3]) e4 = some (.lst [V.int (-1), V.bl true, V.non, V.str "3", V.ref e1, V.int 0, V.ref e2, V.ref e3]) := upd_same
      generalize upd G6 e4 (.lst [V.int (-1), V.bl true, V.non, V.str "3", V.ref e1, V.int 0, V.ref e2, V.ref e3]) = G7 at *
      have s37 := ((s_e1.trans s_e2).trans s_e3).trans s_e4
      have pen7 := pen3.same s37
      obtain ⟨xd, hxd⟩ := pen7.some
      have h_e1 := s_e4 _ _ (s_e3 _ _ (s_e2 _ _ h_e1))
      have h_e2 := s_e4 _ _ (s_e3 _ _ h_e2)
      have h_e3 := s_e4 _ _ h_e3
      have rn : ∀ {p : Addr}, p ≠ d → V.ref p ≠ .ref d := fun n z => n (by injection z)
      have os1 : OddD K G7 d [V.int (-1), V.bl true, V.non, V.str "3", V.ref e1, V.int 0, V.ref e2, V.ref e3] := fun x hx => by
        simp only [List.mem_cons, List.not_mem_nil, or_false] at hx
        rcases hx with rfl | rfl | rfl | rfl | rfl | rfl | rfl | rfl
        · exact ⟨.int _, fun z => nomatch z⟩
        · exact ⟨.bl _, fun z => nomatch z⟩
        · exact ⟨.non, fun z => nomatch z⟩
        · exact ⟨.str _, fun z => nomatch z⟩
        · exact ⟨.lst h_e1, rn (ne_of h_e1 hxd (fun z => nomatch z))⟩
        · exact ⟨.int _, fun z => nomatch z⟩
        · exact ⟨.tup h_e2, rn (ne_of h_e2 hxd (fun z => nomatch z))⟩
        · exact ⟨.dct h_e3, rn (ne_of h_e3 hxd (fun z => nomatch z))⟩
      refine ⟨d, l, p, e4, k3, cs.map V.int, [V.int (-1), V.bl true, V.non, V.str "3", V.ref e1, V.int 0, V.ref e2, V.ref e3], rfl, pen7, s37 _ _ hp3, by rw [List.length_map]; omega, by rw [List.length_map]; omega, h_e4, (by show 0 < 8; decide), (by show 8 < 1000; decide), by omega, fun r1 ys1 G8 k8 hr1 hyl1 hym1 hk8 pen8 bt8 => ?_⟩
      have oy1 : OddD K G8 d ys1 := ((OddD.ints K G7 d cs).but bt8).of (os1.but bt8) hym1
      have hp8 := bt8 _ _ pd (s37 _ _ hp3)
      have hq8 := bt8 _ _ qd (s37 _ _ hq3)
      have tb8 := (tb3.ext s37).pen pen7 bt8
      rw [List.length_map] at hyl1
      clear s_e1 h_e1 n_e1 s_e2 h_e2 n_e2 s_e3 h_e3 n_e3 s_e4 h_e4 n_e4 os1 hym1 bt8 pen7 hxd s37 hp3 hq3 tb3 pen3
      refine ⟨tb8, fun H1 e1 tb1 t0 nt0 E1 Qn hM hC hL hF hW hB hN => ?_⟩
      have hE := told_E hM hC hL hF hW hB
      clear hM hC hL hF hW hB
      have sT : Same H1 (upd H1 t0 (.tup [])) := same_new nt0
      have h0 : upd H1 t0 (.tup []) t0 = some (.tup []) := upd_same
      generalize upd H1 t0 (.tup []) = H2 at *
      have eT : ExtN G8 H2 := e1.trans fun b o e _ => sT b o e
      refine ⟨_, rfl, check_use hE hN h0 (.inl (SqL.of (eT _ _ hr1 (fun _ z => nomatch z)))) (oy1.ext eT).odd (fun r hd t G9 s9 ht => ?_)⟩
      clear hE hN h0
      have e9 : ExtN G8 G9 := eT.trans fun b o e _ => s9 b o e
      refine ⟨_, rfl, r1, ys1, rfl, e9 _ _ hr1 (fun _ z => nomatch z), by omega, (oy1.ext e9).odd, fun r2 t2 G10 hd2 s10 ht2 => ?_⟩
      cases hd.uniq hd2
      refine ne_same (hd.dat K) (s10 _ _ ht) ht2 ⟨_, rfl, iteF ?_⟩
      have e10 : ExtN G8 G10 := e9.trans fun b o e _ => s10 b o e
      have tb10 : Tabs (TL A) G10 := ((tb1.ext sT).ext s9).ext s10
      clear sT s9 s10 tb1 eT e9 e1 hd hd2 ht ht2 nt0
      refine ⟨_, rfl, p, cs, rfl, .inl (SqL.of (e10 _ _ hp8 (fun _ z => nomatch z))), hcn, c2, c26, fun G11 s11 => ⟨rfl, _, rfl, iteF ?_⟩⟩
      have e11 : ExtN G8 G11 := e10.trans fun b o e _ => s11 b o e
      have tb11 := tb10.ext s11
      clear s11 tb10 e10
      refine ⟨tb11, fun H1 e1 tb1 t0 nt0 E1 Qn hM hC hL hF hW hB hN => ?_⟩
      have hE := told_E hM hC hL hF hW hB
      clear hM hC hL hF hW hB
      have sT : Same H1 (upd H1 t0 (.tup [])) := same_new nt0
      have h0 : upd H1 t0 (.tup []) t0 = some (.tup []) := upd_same
      generalize upd H1 t0 (.tup []) = H2 at *
      have eT : ExtN G11 H2 := e1.trans fun b o e _ => sT b o e
      have eT := e11.trans eT
      refine ⟨_, rfl, r1, _, rfl, .inl ⟨SqL.of (eT _ _ hr1 (fun _ z => nomatch z)), fun tt ntt => ?_⟩⟩
      have s3 : Same H2 (upd H2 tt (.tup ys1)) := same_new ntt
      have h3 : upd H2 tt (.tup ys1) tt = some (.tup ys1) := upd_same
      generalize upd H2 tt (.tup ys1) = H3 at *
      have e3 : ExtN G8 H3 := eT.trans fun b o e _ => s3 b o e
      refine check_use hE hN (s3 _ _ h0) (.inr (SqT.of h3)) (oy1.ext e3).odd (fun r hd t G9 s9 ht => ?_)
      clear hE hN h0
      have e9 : ExtN G8 G9 := e3.trans fun b o e _ => s9 b o e
      refine ⟨_, rfl, r1, ys1, rfl, e9 _ _ hr1 (fun _ z => nomatch z), by omega, (oy1.ext e9).odd, fun r2 t2 G10 hd2 s10 ht2 => ?_⟩
      cases hd.uniq hd2
      refine ne_same (hd.dat K) (s10 _ _ ht) ht2 ⟨_, rfl, iteF ?_⟩
      have e10 : ExtN G8 G10 := e9.trans fun b o e _ => s10 b o e
      have tb10 : Tabs (TL A) G10 := (((tb1.ext sT).ext s3).ext s9).ext s10
      have pen10 := pen8.ext e10
      have hq10 := e10 _ _ hq8 (fun _ z => nomatch z)
      clear sT s9 s10 s3 h3 tb1 eT e9 e3 e1 hd hd2 ht ht2 nt0 ntt e11 tb11 oy1 hr1 hyl1 hp8 hq8 tb8 pen8 hp2 e10
      refine ⟨_, rfl, (by show 1 ≤ sizeLine; decide), fun f1 n_f1 => ?_⟩
      have s_f1 : Same G10 (upd G10 f1 (.lst [V.int 1])) := same_new n_f1
      have h_f1 : upd G10 f1 (.lst [V.int 1]) f1 = some (.lst [V.int 1]) := upd_same
      generalize upd G10 f1 (.lst [V.int 1]) = G11 at *
      refine ⟨_, _, rfl, rfl, ⟨by decide, by decide, by decide⟩, (by show 2 ≤ sizeLine; decide), fun f2 n_f2 => ?_⟩
      have s_f2 : Same G11 (upd G11 f2 (.lst [V.int 1, V.int 1])) := same_new n_f2
      have h_f2 : upd G11 f2 (.lst [V.int 1, V.int 1]) f2 = some (.lst [V.int 1, V.int 1]) := upd_same
      generalize upd G11 f2 (.lst [V.int 1, V.int 1]) = G12 at *
      intro x dx nx ndx ne
      have hf2 : upd (upd G12 dx (.own x)) x (.ins A.c_Code dx []) f2 = some (.lst (Ls [1, 1])) := by rw [upd_ne (ne_of_none h_f2 nx), upd_ne (ne_of_none h_f2 ndx)]; exact h_f2
      refine ⟨x, dx, f2, [1, 1], rfl, upd_same, hf2, by decide, by decide, by simp, by decide +kernel, fun G13 fs bt hx => ⟨rfl, ?_⟩⟩
      have sx : Same G12 G13 := fun b o e => bt b o (ne_of_none e nx) (by rw [upd_ne (ne_of_none e nx), upd_ne (ne_of_none e ndx)]; exact e)
      clear bt hf2 nx ndx ne
      intro x2 dx2 nx2 ndx2 ne2
      refine ⟨x2, dx2, rfl, upd_same, fun G14 bt2 hx2 => ⟨rfl, (by show 13 ≤ sizeLine; decide), fun od n_od => ?_⟩⟩
      have sx2 : Same G13 G14 := fun b o e => bt2 b o (ne_of_none e nx2) (by rw [upd_ne (ne_of_none e nx2), upd_ne (ne_of_none e ndx2)]; exact e)
      clear bt2 nx2 ndx2 ne2
      have s_od : Same G14 (upd G14 od (.lst [V.int 0, V.int (-1), V.int 26, V.bl true, V.non, V.str "1", V.int 1, V.int 2, V.int 3, V.ref f1, V.int (10 ^ Int.toNat 30), V.ref x, V.ref x2])) := same_new n_od
      have h_od : upd G14 od (.lst [V.int 0, V.int (-1), V.int 26, V.bl true, V.non, V.str "1", V.int 1, V.int 2, V.int 3, V.ref f1, V.int (10 ^ Int.toNat 30), V.ref x, V.ref x2]) od = some (.lst [V.int 0, V.int (-1), V.int 26, V.bl true, V.non, V.str "1", V.int 1, V.int 2, V.int 3, V.ref f1, V.int (10 ^ Int.toNat 30), V.ref x, V.ref x2]) := upd_same
      generalize upd G14 od (.lst [V.int 0, V.int (-1), V.int 26, V.bl true, V.non, V.str "1", V.int 1, V.int 2, V.int 3, V.ref f1, V.int (10 ^ Int.toNat 30), V.ref x, V.ref x2]) = G15 at *
      have hx15 := s_od _ _ (sx2 _ _ hx)
      have hx215 := s_od _ _ hx2
      have hf115 := s_od _ _ (sx2 _ _ (sx _ _ (s_f2 _ _ h_f1)))
      have s15 := (((s_f1.trans s_f2).trans sx).trans sx2).trans s_od
      have pen15 := pen10.same s15
      obtain ⟨xd2, hxd2⟩ := pen15.some
      have os2 : OddD K G15 d [V.int 0, V.int (-1), V.int 26, V.bl true, V.non, V.str "1", V.int 1, V.int 2, V.int 3, V.ref f1, V.int (10 ^ Int.toNat 30), V.ref x, V.ref x2] := fun z hz => by
        simp only [List.mem_cons, List.not_mem_nil, or_false] at hz
        rcases hz with rfl | rfl | rfl | rfl | rfl | rfl | rfl | rfl | rfl | rfl | rfl | rfl | rfl
        · exact ⟨.int _, fun z => nomatch z⟩
        · exact ⟨.int _, fun z => nomatch z⟩
        · exact ⟨.int _, fun z => nomatch z⟩
        · exact ⟨.bl _, fun z => nomatch z⟩
        · exact ⟨.non, fun z => nomatch z⟩
        · exact ⟨.str _, fun z => nomatch z⟩
        · exact ⟨.int _, fun z => nomatch z⟩
        · exact ⟨.int _, fun z => nomatch z⟩
        · exact ⟨.int _, fun z => nomatch z⟩
        · exact ⟨.lst hf115, rn (ne_of hf115 hxd2 (fun z => nomatch z))⟩
        · exact ⟨.int _, fun z => nomatch z⟩
        · exact ⟨.ins hx15 T.Ico, rn (ne_of hx15 hxd2 (fun z => nomatch z))⟩
        · exact ⟨.ins hx215 T.Iro, rn (ne_of hx215 hxd2 (fun z => nomatch z))⟩
      have ll := Ls_len L
      have oL : ∀ {G : Hp}, OddD K G d (Ls L) := fun {G} => OddD.ints K G d _
      refine ⟨_, rfl, _, rfl, _, rfl, d, l, q, od, k8, Ls L, [V.int 0, V.int (-1), V.int 26, V.bl true, V.non, V.str "1", V.int 1, V.int 2, V.int 3, V.ref f1, V.int (10 ^ Int.toNat 30), V.ref x, V.ref x2], rfl, pen15, s15 _ _ hq10, by omega, by omega, h_od, (by show 0 < 13; decide), (by show 13 < 1000; decide), by omega, fun r2 ys2 G20 k20 hr2 hyl2 hym2 hk20 pen20 bt20 => ?_⟩
      have od_d : od ≠ d := ne_of h_od hxd2 (fun z => nomatch z)
      have oy2 : OddD K G20 d ys2 := oL.of (os2.but bt20) hym2
      have os20 := os2.but bt20
      have hq20 := bt20 _ _ qd (s15 _ _ hq10)
      have hod20 := bt20 _ _ od_d h_od
      have tb20 := (tb10.ext s15).pen pen15 bt20
      rw [ll] at hyl2
      clear bt20 hym2 os2 s15 hx15 hx215 hf115 hxd2 pen15 s_od h_od n_od sx sx2 hx hx2 s_f1 h_f1 n_f1 s_f2 h_f2 n_f2 hq10 tb10 pen10
      refine ⟨_, rfl, d, l, 3, k20, rfl, pen20, by decide, by decide, by omega, fun v3 G21 k21 v3a v3b hk21 pen21 bt21 => ⟨rfl, _, rfl, ?_⟩⟩
      have oy21 := oy2.but bt21
      have os21 := os20.but bt21
      have hq21 := bt21 _ _ qd hq20
      have hod21 := bt21 _ _ od_d hod20
      have r2d : r2 ≠ d := let ⟨x, e⟩ := pen20.some; ne_of hr2 e (fun z => nomatch z)
      have hr21 := bt21 _ _ r2d hr2
      have tb21 := tb20.pen pen20 bt21
      clear bt21 oy2 os20 hq20 hod20 hr2 tb20 pen20
      refine ite2 (fun _ => ?_) (fun _ => ?_)
      · refine ⟨_, rfl, (by show 0 ≤ sizeLine; decide), fun e n_e => ?_⟩
        have se : Same G21 (upd G21 e (.lst [])) := same_new n_e
        have he : upd G21 e (.lst []) e = some (.lst []) := upd_same
        generalize upd G21 e (.lst []) = G22 at *
        refine ⟨r2, e, ys2, rfl, rfl, se _ _ hr21, he, _, rfl, ?_⟩
        have pen22 := pen21.same se
        have tb22 := tb21.ext se
        have hr22 := se _ _ hr21
        have hq22 := se _ _ hq21
        have oy22 := oy21.same se
        have os22 := os21.same se
        have hod22 := se _ _ hod21
        clear se he n_e hr21 hq21 oy21 os21 hod21 tb21 pen21
        by_cases cz : ys2.length = 0
        · rw [decide_eq_true cz]
          refine iteF ?_
          obtain ⟨GR, eGR⟩ : ∃ GR, GR = G22 := ⟨_, rfl⟩
          obtain ⟨kR, ekR⟩ : ∃ kR, kR = k21 := ⟨_, rfl⟩
          rw [← eGR] at pen22 tb22 hr22 hq22 oy22 ⊢
          rw [← ekR] at pen22
          have penR := pen22; have tbR := tb22; have hrR := hr22; have hqR := hq22; have oyR := oy22
          have hyR : ys2.length ≤ 60 := by omega
          have hkR : kR ≤ k + 50 := by omega
          clear pen22 tb22 hr22 hq22 oy22 os22 hod22 eGR ekR
          refine ⟨tbR, fun H1 e1 tb1 t0 nt0 E1 Qn hM hC hL hF hW hB hN => ?_⟩
          have hE := told_E hM hC hL hF hW hB
          clear hM hC hL hF hW hB
          have sT : Same H1 (upd H1 t0 (.tup [])) := same_new nt0
          have h0 : upd H1 t0 (.tup []) t0 = some (.tup []) := upd_same
          generalize upd H1 t0 (.tup []) = H2 at *
          have eT : ExtN GR H2 := e1.trans fun b o e _ => sT b o e
          refine ⟨_, rfl, code_use hE hN h0 (eT _ _ hrR (fun _ z => nomatch z)) (oyR.ext eT).odd (g := none) rfl (fun r hd t G9 s9 ht => ?_)⟩
          clear hE hN h0
          have e9 : ExtN GR G9 := eT.trans fun b o e _ => s9 b o e
          refine ⟨_, rfl, r2, .non, ys2, none, rfl, e9 _ _ hrR (fun _ z => nomatch z), by omega, (oyR.ext e9).odd, rfl, fun r' t2 G10 hd2 s10 ht2 => ?_⟩
          cases hd.uniq hd2
          refine ne_same (hd.dat K) (s10 _ _ ht) ht2 ⟨_, rfl, iteF ?_⟩
          have e10 : ExtN GR G10 := e9.trans fun b o e _ => s10 b o e
          have tb10 : Tabs (TL A) G10 := ((tb1.ext sT).ext s9).ext s10
          have pen10 := penR.ext e10; have hq10 := e10 _ _ hqR (fun _ z => nomatch z); have hr10 := e10 _ _ hrR (fun _ z => nomatch z); have oy10 := oyR.ext e10
          clear sT s9 s10 tb1 eT e9 e1 hd hd2 ht ht2 nt0 e10 tbR penR hqR hrR oyR
          have r2d : r2 ≠ d := let ⟨x, e⟩ := pen10.some; ne_of hr10 e (fun z => nomatch z)
          refine ⟨_, rfl, q, L, rfl, SqL.of hq10, GL, fun wp G11 s11 hT => ⟨wp, _, rfl, .inr hT, fun wl n_wl => ?_⟩⟩
          have hq11 := s11 _ _ hq10; have hr11 := s11 _ _ hr10; have pen11 := pen10.same s11; have oy11 := oy10.same s11; have tb11 := tb10.ext s11
          clear s11 hT hq10 hr10 pen10 oy10 tb10
          have qw : q ≠ wl := ne_of_none hq11 n_wl
          have r2w : r2 ≠ wl := ne_of_none hr11 n_wl
          have dw : d ≠ wl := let ⟨x, e⟩ := pen11.some; ne_of_none e n_wl
          have lw : l ≠ wl := let ⟨x, e⟩ := pen11.cells; ne_of_none e n_wl
          have oyw : ∀ y ∈ ys2, y ≠ .ref wl := fun y hy z => by
            have h := (oy11 y hy).1
            subst z
            cases h with
            | lst h => rw [n_wl] at h; cases h
            | tup h => rw [n_wl] at h; cases h
            | dct h => rw [n_wl] at h; cases h
            | ins h _ => rw [n_wl] at h; cases h
          have s_wl : Same G11 (upd G11 wl (.lst (txs (cw L)))) := same_new n_wl
          have h_wl : upd G11 wl (.lst (txs (cw L))) wl = some (.lst (txs (cw L))) := upd_same
          generalize upd G11 wl (.lst (txs (cw L))) = G12 at *
          have pen12 := pen11.same s_wl
          refine ⟨_, rfl, _, rfl, d, l, _, kR, rfl, pen12, by omega, by omega, by omega, fun va G13 k13 va0 va1 hk13 pen13 bt13 => ⟨(by show 2 ≤ sizeLine; decide), fun u n_u => ?_⟩⟩
          have s_u : Same G13 (upd G13 u (.tup [V.ref wl, V.int va])) := same_new n_u
          have h_u : upd G13 u (.tup [V.ref wl, V.int va]) u = some (.tup [V.ref wl, V.int va]) := upd_same
          generalize upd G13 u (.tup [V.ref wl, V.int va]) = G14 at *
          refine ⟨u, _, rfl, SqT.of h_u, rfl, _, _, rfl, _, _, rfl, rfl, ?_⟩
          obtain ⟨ia, rfl⟩ : ∃ ia : Nat, va = (ia : Int) := ⟨va.toNat, (Int.toNat_of_nonneg va0).symm⟩
          have b14 : But d G11 G14 := ((But.of s_wl).trans bt13).trans (But.of s_u)
          have hwl14 := s_u _ _ (bt13 _ _ dw.symm h_wl)
          have hq14 := b14 _ _ qd hq11; have hr14 := b14 _ _ r2d hr11; have oy14 := oy11.but b14; have pen14 := pen13.same s_u
          have tb14 := (((tb11.ext s_wl).pen pen12 bt13).ext s_u)
          clear s_wl h_wl bt13 s_u h_u n_u pen13 pen12 b14 hq11 hr11 oy11 pen11 tb11 n_wl
          have wlen : (txs (cw L)).length = 2 + m := by rw [txs_len, cw_len, hLl]
          have hia : ia < 2 + m := by omega
          have lat : ∀ i : Nat, i < 2 + m → ∃ la : Nat, L[i]? = some la ∧ 1 ≤ la ∧ la ≤ 25 := fun i hi => ⟨_, List.getElem?_eq_getElem (by omega), GL.at (List.getElem?_eq_getElem (by omega))⟩
          have wat : ∀ i : Nat, i < 2 + m → ∃ x : List Nat, (cw L)[i]? = some x ∧ x.length ≤ 25 := fun i hi => by
            obtain ⟨la, hla, r1, r2⟩ := lat i hi
            have hx := List.getElem?_eq_getElem (l := cw L) (i := i) (by rw [cw_len]; omega)
            exact ⟨_, hx, by rw [((cw_ok GL).bit i _ la hx hla).1]; exact r2⟩
          obtain ⟨la, hla, la1, la2⟩ := lat ia hia; obtain ⟨xa, hxa, lxa⟩ := wat ia hia; obtain ⟨x0, hx0, lx0⟩ := wat 0 (by omega)
          have sz25 : 25 ≤ sizeLine := by decide
          refine ⟨_, rfl, _, rfl, _, rfl, q, _, _, _, rfl, rfl, SqL.of hq14, at_of rfl (Ls_at hla), _, _, rfl, rfl, rfl, by omega, by omega, fun s1 hs1 => ?_⟩
          refine ⟨_, rfl, _, rfl, q, _, _, _, rfl, rfl, SqL.of hq14, at_of rfl (Ls_at hla), _, _, rfl, rfl, rfl, by omega, by omega, fun s2 hs2 => ?_⟩
          refine ⟨_, rfl, wl, _, _, _, rfl, rfl, SqL.of hwl14, at_of (j := 0) rfl (txs_at hx0), ?_⟩
          refine ⟨_, rfl, _, rfl, wl, _, _, _, rfl, rfl, SqL.of hwl14, at_of rfl (txs_at hxa), _, rfl, by rw [txt_len]; omega, fun s3 hs3 => ?_⟩
          rw [txt_len] at hs3
          refine ⟨(by show 8 ≤ sizeLine; decide), fun pl n_pl => ?_⟩
          have s_pl : Same G14 (upd G14 pl (.lst [V.non, V.str "", V.str "2", V.int 0, V.str s1, V.str s2, V.str (txt x0), V.str s3])) := same_new n_pl
          have h_pl : upd G14 pl (.lst [V.non, V.str "", V.str "2", V.int 0, V.str s1, V.str s2, V.str (txt x0), V.str s3]) pl = some (.lst [V.non, V.str "", V.str "2", V.int 0, V.str s1, V.str s2, V.str (txt x0), V.str s3]) := upd_same
          generalize upd G14 pl (.lst [V.non, V.str "", V.str "2", V.int 0, V.str s1, V.str s2, V.str (txt x0), V.str s3]) = G15 at *
          have pld : pl ≠ d := let ⟨x, e⟩ := pen14.some; (ne_of_none e n_pl).symm
          refine ⟨d, l, pl, _, k13, rfl, pen14.same s_pl, h_pl, (by show 0 < 8; decide), (by show 8 < 1000; decide), by omega, fun w1 G16 k16 hw1 hk16 pen16 bt16 => ?_⟩
          have slen : ∀ z : Str, z.cps.toList.length = z.length := fun z => by simp [Str.length]
          have pw1 : isAt w1 = true ∧ short w1 := by
            simp only [List.mem_cons, List.not_mem_nil, or_false] at hw1
            rcases hw1 with rfl | rfl | rfl | rfl | rfl | rfl | rfl | rfl
            · exact ⟨rfl, fun z e => nomatch e⟩
            · exact ⟨rfl, fun z e => by cases e; decide⟩
            · exact ⟨rfl, fun z e => by cases e; decide⟩
            · exact ⟨rfl, fun z e => nomatch e⟩
            · exact ⟨rfl, fun z e => by cases e; rw [slen]; omega⟩
            · exact ⟨rfl, fun z e => by cases e; rw [slen]; omega⟩
            · exact ⟨rfl, fun z e => by cases e; rw [slen, txt_len]; omega⟩
            · exact ⟨rfl, fun z e => by cases e; rw [slen]; omega⟩
          have b16 := (But.of s_pl).trans bt16
          have hwl16 := b16 _ _ dw.symm hwl14
          refine ⟨_, rfl, _, rfl, wl, _, _, ia, rfl, rfl, hwl16, ixN_nat (by omega), ?_⟩
          have f17 : But wl G16 (upd G16 wl (.lst ((txs (cw L)).set ia w1))) := fun b o n e => by rw [upd_ne n]; exact e
          have hwl17 : upd G16 wl (.lst ((txs (cw L)).set ia w1)) wl = some (.lst ((txs (cw L)).set ia w1)) := upd_same
          have pen17 : Pen (upd G16 wl (.lst ((txs (cw L)).set ia w1))) d l k16 := pen16.upd dw lw
          have tb17 : Tabs (TL A) (upd G16 wl (.lst ((txs (cw L)).set ia w1))) := fun pq hpq => by
            obtain ⟨ps, t1, t2, t3⟩ := ((tb14.ext s_pl).pen (pen14.same s_pl) bt16) pq hpq
            refine ⟨ps, f17 _ _ (ne_of t1 hwl16 (fun z => nomatch z)) t1, t2, fun pos cv hc => ?_⟩
            obtain ⟨cc, u1, u2⟩ := t3 pos cv hc
            exact ⟨cc, u1, f17 _ _ (ne_of u2 hwl16 (fun z => by unfold CodeO at z; cases z)) u2⟩
          have hws : ∀ u ∈ (txs (cw L)).set ia w1, isAt u = true ∧ short u := fun u hu => by
            rcases List.mem_or_eq_of_mem_set hu with h | rfl
            · obtain ⟨i, hi, e⟩ := List.getElem_of_mem h
              obtain ⟨x, hx, rfl⟩ := txs_of (show (txs (cw L))[i]? = some u by rw [List.getElem?_eq_getElem hi, e])
              have ih : i < 2 + m := by omega
              obtain ⟨x2, hx2, lx2⟩ := wat i ih
              rw [hx] at hx2; cases hx2
              exact ⟨rfl, fun z e => by cases e; rw [slen, txt_len]; omega⟩
            · exact pw1
          have wlen2 : ((txs (cw L)).set ia w1).length = 2 + m := by rw [List.length_set]; exact wlen
          have hq17 := f17 _ _ qw (b16 _ _ qd hq14); have hr17 := f17 _ _ r2w (b16 _ _ r2d hr14)
          have oy17 : OddD K (upd G16 wl (.lst ((txs (cw L)).set ia w1))) d ys2 := fun y hy => ⟨((oy14.but b16) y hy).1.but (oyw y hy) f17, (oy14 y hy).2⟩
          generalize upd G16 wl (.lst ((txs (cw L)).set ia w1)) = G17 at *
          generalize (txs (cw L)).set ia w1 = WS at *
          clear f17 hwl16 b16 hw1 pw1 s_pl h_pl n_pl bt16 pen16 hwl14 hq14 hr14 oy14 pen14 tb14 hs1 hs2 hs3 hx0 hxa hla la1 la2 lxa lx0 wlen
          refine ⟨_, rfl, _, rfl, d, l, _, k16, rfl, pen17, by omega, by omega, by omega, fun vo G18 k18 vo0 vo1 hk18 pen18 bt18 => ?_⟩
          obtain ⟨io, rfl⟩ : ∃ io : Nat, vo = (io : Int) := ⟨vo.toNat, (Int.toNat_of_nonneg vo0).symm⟩
          have hio : io < 2 + m := by omega
          obtain ⟨lo1, hlo, lo2, lo3⟩ := lat io hio
          have hwl18 := bt18 _ _ dw.symm hwl17; have hq18 := bt18 _ _ qd hq17; have hr18 := bt18 _ _ r2d hr17; have oy18 := oy17.but bt18; have tb18 := tb17.pen pen17 bt18
          clear bt18 hwl17 hq17 hr17 oy17 tb17 pen17
          have hwo := List.getElem?_eq_getElem (l := WS) (i := io) (by omega)
          have hwom := List.mem_of_getElem? hwo
          generalize WS[io] = wo at hwo hwom
          refine ⟨_, rfl, _, rfl, _, rfl, wl, _, _, _, rfl, rfl, SqL.of hwl18, at_of rfl hwo, _, rfl, _, rfl, wl, _, _, _, rfl, rfl, SqL.of hwl18, at_of rfl hwo, _, rfl, _, rfl, q, _, _, _, rfl, rfl, SqL.of hq18, at_of rfl (Ls_at hlo), _, _, rfl, rfl, rfl, by omega, by omega, fun s4 hs4 => ⟨(by show 1 ≤ sizeLine; decide), fun g1 n_g1 => ?_⟩⟩
          have s_g1 : Same G18 (upd G18 g1 (.lst [V.str "0"])) := same_new n_g1
          have h_g1 : upd G18 g1 (.lst [V.str "0"]) g1 = some (.lst [V.str "0"]) := upd_same
          generalize upd G18 g1 (.lst [V.str "0"]) = G19 at *
          refine ⟨_, rfl, _, rfl, q, _, _, _, rfl, rfl, SqL.of (s_g1 _ _ hq18), at_of rfl (Ls_at hlo), _, _, rfl, rfl, rfl, by omega, by omega, fun s5 hs5 => ⟨(by show 5 ≤ sizeLine; decide), fun pl n_pl => ?_⟩⟩
          have s_pl : Same G19 (upd G19 pl (.lst [wo, wo, V.str s4, V.ref g1, V.str s5])) := same_new n_pl
          have h_pl : upd G19 pl (.lst [wo, wo, V.str s4, V.ref g1, V.str s5]) pl = some (.lst [wo, wo, V.str s4, V.ref g1, V.str s5]) := upd_same
          generalize upd G19 pl (.lst [wo, wo, V.str s4, V.ref g1, V.str s5]) = G20 at *
          have s1820 := s_g1.trans s_pl
          have pen20 := pen18.same s1820
          have g1d : g1 ≠ d := let ⟨x, e⟩ := pen18.some; (ne_of_none e n_g1).symm
          have g1w : g1 ≠ wl := (ne_of_none hwl18 n_g1).symm
          refine ⟨d, l, pl, _, k18, rfl, pen20, h_pl, (by show 0 < 5; decide), (by show 5 < 1000; decide), by omega, fun w2 G21 k21 hw2 hk21 pen21 bt21 => ?_⟩
          have b21 := (But.of s1820).trans bt21
          have hg121 := bt21 _ _ g1d (s_pl _ _ h_g1)
          have hwl21 := b21 _ _ dw.symm hwl18
          refine ⟨_, rfl, _, rfl, wl, _, _, io, rfl, rfl, hwl21, ixN_nat (by omega), ?_⟩
          have f22 : But wl G21 (upd G21 wl (.lst (WS.set io w2))) := fun b o n e => by rw [upd_ne n]; exact e
          have hwl22 : upd G21 wl (.lst (WS.set io w2)) wl = some (.lst (WS.set io w2)) := upd_same
          have pen22 : Pen (upd G21 wl (.lst (WS.set io w2))) d l k21 := pen21.upd dw lw
          have tb22 : Tabs (TL A) (upd G21 wl (.lst (WS.set io w2))) := fun pq hpq => by
            obtain ⟨ps, t1, t2, t3⟩ := ((tb18.ext s1820).pen pen20 bt21) pq hpq
            refine ⟨ps, f22 _ _ (ne_of t1 hwl21 (fun z => nomatch z)) t1, t2, fun pos cv hc => ?_⟩
            obtain ⟨cc, u1, u2⟩ := t3 pos cv hc
            exact ⟨cc, u1, f22 _ _ (ne_of u2 hwl21 (fun z => by unfold CodeO at z; cases z)) u2⟩
          have oW : OddD K (upd G21 wl (.lst (WS.set io w2))) d (WS.set io w2) ∧ ∀ u ∈ WS.set io w2, short u := by
            have at1 : ∀ {u : V} {G : Hp}, isAt u = true → Odd K G u ∧ u ≠ .ref d := fun {u G} h => ⟨(odd_flat h).1, (odd_flat (G := G) (K := K) h).2 d⟩
            have k2 : (Odd K (upd G21 wl (.lst (WS.set io w2))) w2 ∧ w2 ≠ .ref d) ∧ short w2 := by
              simp only [List.mem_cons, List.not_mem_nil, or_false] at hw2
              rcases hw2 with rfl | rfl | rfl | rfl | rfl
              · exact ⟨at1 (hws _ hwom).1, (hws _ hwom).2⟩
              · exact ⟨at1 (hws _ hwom).1, (hws _ hwom).2⟩
              · exact ⟨at1 rfl, fun z e => by cases e; rw [slen]; omega⟩
              · exact ⟨⟨.lst (f22 _ _ g1w hg121), rn g1d⟩, fun z e => nomatch e⟩
              · exact ⟨at1 rfl, fun z e => by cases e; rw [slen]; omega⟩
            refine ⟨fun u hu => ?_, fun u hu => ?_⟩
            · rcases List.mem_or_eq_of_mem_set hu with h | rfl
              · exact at1 (hws u h).1
              · exact k2.1
            · rcases List.mem_or_eq_of_mem_set hu with h | rfl
              · exact (hws u h).2
              · exact k2.2
          have hq22 := f22 _ _ qw (b21 _ _ qd hq18); have hr22 := f22 _ _ r2w (b21 _ _ r2d hr18)
          have oy22 : OddD K (upd G21 wl (.lst (WS.set io w2))) d ys2 := fun y hy => ⟨((oy18.but b21) y hy).1.but (oyw y hy) f22, (oy18 y hy).2⟩
          have wlen3 : (WS.set io w2).length = 2 + m := by rw [List.length_set]; exact wlen2
          generalize upd G21 wl (.lst (WS.set io w2)) = G22 at *
          obtain ⟨oW, sW⟩ := oW
          generalize WS.set io w2 = W2 at *
          clear f22 hwl21 hg121 b21 hw2 s_pl h_pl n_pl s_g1 h_g1 n_g1 bt21 pen21 pen20 s1820 hwl18 hq18 hr18 oy18 tb18 pen18 hs4 hs5 hwo hwom hws oyw hlo lo2 lo3
          refine ⟨_, rfl, _, rfl, (by show 2 ≤ sizeLine; decide), fun lo n_lo => ⟨lo, rfl, ⟨_, SqL.of upd_same⟩, ?_⟩⟩
          have slo : Same G22 (upd G22 lo (.lst [V.ref q, V.ref r2])) := same_new n_lo
          have hlo : upd G22 lo (.lst [V.ref q, V.ref r2]) lo = some (.lst [V.ref q, V.ref r2]) := upd_same
          generalize upd G22 lo (.lst [V.ref q, V.ref r2]) = G23 at *
          refine for_it (walk_list (K := K) (a := lo) (xs := [V.ref q, V.ref r2])) (fun i σ G => (∃ y11 y12 y13 y14, σ = [some (.ref a), some (.ref d), some (.int (0 + (j : Int))), some (.int (2 + (m : Int))), some (.ref p), some (.ref q), some (.ref r2), some (.ref od), some (.ref wl), some (.int (ia : Int)), some (.int (io : Int)), y11, y12, y13, y14]) ∧ Tabs (TL A) G ∧ ExtN G23 G) ⟨⟨_, _, _, _, rfl⟩, tb22.ext slo, ExtN.refl _⟩ (fun i σ G _ hP => SqL.of (hP.2.2 _ _ hlo (fun _ z => nomatch z))) ?_ ?_
          · rintro i x σ G G' hi ⟨⟨y11, y12, y13, y14, rfl⟩, tb, eG⟩ ⟨rfl, hx⟩
            have e22 : ExtN G22 G' := ExtN.trans (fun b o e _ => slo b o e) eG
            have hone : ∃ on xo, x = .ref on ∧ G22 on = some (.lst xo) ∧ OddD K G22 d xo ∧ xo.length ≤ 60 := by
              match i, hx with
              | 0, hx => cases hx; exact ⟨q, _, rfl, hq22, oL, by omega⟩
              | 1, hx => cases hx; exact ⟨r2, _, rfl, hr22, oy22, by omega⟩
              | i + 2, hx => exact absurd hi (by show ¬ (i + 2 < 2); omega)
            obtain ⟨on, xo, rfl, hon, oxo, lxo⟩ := hone
            clear hx
            refine ⟨_, rfl, on, xo, rfl, .inl (SqL.of (e22 _ _ hon (fun _ z => nomatch z))), _, rfl, rfl, _, rfl, ?_⟩
            by_cases ce : ((xo.length : Nat) : Int) = 2 + (m : Int)
            case neg =>
              rw [show decide (V.int ((xo.length : Nat) : Int) = V.int (2 + (m : Int))) = false from decide_eq_false (fun z => ce (by injection z))]
              exact iteF ⟨_, rfl, rfl, _, rfl, iteF ⟨⟨_, _, _, _, rfl⟩, tb, eG⟩⟩
            rw [show decide (V.int ((xo.length : Nat) : Int) = V.int (2 + (m : Int))) = true from decide_eq_true (by rw [ce])]
            have lxw : W2.length = xo.length := by omega
            have giw : ∀ {G3 : Hp}, ExtN G22 G3 → Giw K G3 (.ref wl) xo.length (some W2) := fun e => ⟨wl, rfl, e _ _ hwl22 (fun _ z => nomatch z), lxw, fun u hu => ⟨((oW.ext e) u hu).1, sW u hu⟩⟩
            refine iteT ⟨tb, fun H1 e1 tb1 t0 nt0 E1 Qn hM hC hL hF hW hB hN => ?_⟩
            have hE := told_E hM hC hL hF hW hB
            clear hM hC hL hF hW hB
            have sT : Same H1 (upd H1 t0 (.tup [])) := same_new nt0
            have h0 : upd H1 t0 (.tup []) t0 = some (.tup []) := upd_same
            generalize upd H1 t0 (.tup []) = H2 at *
            have eT : ExtN G' H2 := e1.trans fun b o e _ => sT b o e
            have eT2 := e22.trans eT
            refine ⟨_, rfl, _, rfl, code_use hE hN h0 (eT2 _ _ hon (fun _ z => nomatch z)) (oxo.ext eT2).odd (g := some W2) (giw eT2) (fun r hd t G9 s9 ht => ?_)⟩
            clear hE hN h0
            have e9 : ExtN G22 G9 := eT2.trans fun b o e _ => s9 b o e
            refine ⟨_, rfl, rfl, _, rfl, iteT ⟨_, rfl, _, rfl, _, rfl, on, .ref wl, xo, some W2, rfl, e9 _ _ hon (fun _ z => nomatch z), by omega, (oxo.ext e9).odd, giw e9, fun r' t2 G10 hd2 s10 ht2 => ?_⟩⟩
            cases hd.uniq hd2
            refine ne_same (hd.dat K) (s10 _ _ ht) ht2 ⟨_, rfl, iteF ⟨⟨_, _, _, _, rfl⟩, ((tb1.ext sT).ext s9).ext s10, ?_⟩⟩
            exact ((eG.trans eT).trans fun b o e _ => s9 b o e).trans fun b o e _ => s10 b o e
          · rintro σ G ⟨⟨y11, y12, y13, y14, rfl⟩, tb, eG⟩
            have e22 : ExtN G22 G := ExtN.trans (fun b o e _ => slo b o e) eG
            exact ⟨⟨_, _, _, _, _, _, _, _, _, _, _, _, _, rfl⟩, ⟨k21, by omega, pen22.ext e22⟩, tb⟩
        · rw [decide_eq_false cz]
          refine iteT ?_
          refine ⟨_, rfl, _, rfl, _, rfl, d, l, r2, od, k21, ys2, [V.int 0, V.int (-1), V.int 26, V.bl true, V.non, V.str "1", V.int 1, V.int 2, V.int 3, V.ref f1, V.int (10 ^ Int.toNat 30), V.ref x, V.ref x2], rfl, pen22, hr22, by omega, by omega, hod22, (by show 0 < 13; decide), (by show 13 < 1000; decide), by omega, fun r3 ys3 GR kR hrR hyl3 hym3 hk22 penR bt22 => ?_⟩
          have oyR : OddD K GR d ys3 := (oy22.but bt22).of (os22.but bt22) hym3
          have hqR := bt22 _ _ qd hq22
          have tbR := tb22.pen pen22 bt22
          have hyR : ys3.length ≤ 60 := by omega
          have hkR : kR ≤ k + 50 := by omega
          clear bt22 hym3 oy22 os22 hq22 hod22 hr22 pen22 tb22 cz r2d
          clear hyl3 hyl2
          refine ⟨tbR, fun H1 e1 tb1 t0 nt0 E1 Qn hM hC hL hF hW hB hN => ?_⟩
          have hE := told_E hM hC hL hF hW hB
          clear hM hC hL hF hW hB
          have sT : Same H1 (upd H1 t0 (.tup [])) := same_new nt0
          have h0 : upd H1 t0 (.tup []) t0 = some (.tup []) := upd_same
          generalize upd H1 t0 (.tup []) = H2 at *
          have eT : ExtN GR H2 := e1.trans fun b o e _ => sT b o e
          refine ⟨_, rfl, code_use hE hN h0 (eT _ _ hrR (fun _ z => nomatch z)) (oyR.ext eT).odd (g := none) rfl (fun r hd t G9 s9 ht => ?_)⟩
          clear hE hN h0
          have e9 : ExtN GR G9 := eT.trans fun b o e _ => s9 b o e
          refine ⟨_, rfl, r3, .non, ys3, none, rfl, e9 _ _ hrR (fun _ z => nomatch z), by omega, (oyR.ext e9).odd, rfl, fun r' t2 G10 hd2 s10 ht2 => ?_⟩
          cases hd.uniq hd2
          refine ne_same (hd.dat K) (s10 _ _ ht) ht2 ⟨_, rfl, iteF ?_⟩
          have e10 : ExtN GR G10 := e9.trans fun b o e _ => s10 b o e
          have tb10 : Tabs (TL A) G10 := ((tb1.ext sT).ext s9).ext s10
          have pen10 := penR.ext e10; have hq10 := e10 _ _ hqR (fun _ z => nomatch z); have hr10 := e10 _ _ hrR (fun _ z => nomatch z); have oy10 := oyR.ext e10
          clear sT s9 s10 tb1 eT e9 e1 hd hd2 ht ht2 nt0 e10 tbR penR hqR hrR oyR
          have r2d : r3 ≠ d := let ⟨x, e⟩ := pen10.some; ne_of hr10 e (fun z => nomatch z)
          refine ⟨_, rfl, q, L, rfl, SqL.of hq10, GL, fun wp G11 s11 hT => ⟨wp, _, rfl, .inr hT, fun wl n_wl => ?_⟩⟩
          have hq11 := s11 _ _ hq10; have hr11 := s11 _ _ hr10; have pen11 := pen10.same s11; have oy11 := oy10.same s11; have tb11 := tb10.ext s11
          clear s11 hT hq10 hr10 pen10 oy10 tb10
          have qw : q ≠ wl := ne_of_none hq11 n_wl
          have r2w : r3 ≠ wl := ne_of_none hr11 n_wl
          have dw : d ≠ wl := let ⟨x, e⟩ := pen11.some; ne_of_none e n_wl
          have lw : l ≠ wl := let ⟨x, e⟩ := pen11.cells; ne_of_none e n_wl
          have oyw : ∀ y ∈ ys3, y ≠ .ref wl := fun y hy z => by
            have h := (oy11 y hy).1
            subst z
            cases h with
            | lst h => rw [n_wl] at h; cases h
            | tup h => rw [n_wl] at h; cases h
            | dct h => rw [n_wl] at h; cases h
            | ins h _ => rw [n_wl] at h; cases h
          have s_wl : Same G11 (upd G11 wl (.lst (txs (cw L)))) := same_new n_wl
          have h_wl : upd G11 wl (.lst (txs (cw L))) wl = some (.lst (txs (cw L))) := upd_same
          generalize upd G11 wl (.lst (txs (cw L))) = G12 at *
          have pen12 := pen11.same s_wl
          refine ⟨_, rfl, _, rfl, d, l, _, kR, rfl, pen12, by omega, by omega, by omega, fun va G13 k13 va0 va1 hk13 pen13 bt13 => ⟨(by show 2 ≤ sizeLine; decide), fun u n_u => ?_⟩⟩
          have s_u : Same G13 (upd G13 u (.tup [V.ref wl, V.int va])) := same_new n_u
          have h_u : upd G13 u (.tup [V.ref wl, V.int va]) u = some (.tup [V.ref wl, V.int va]) := upd_same
          generalize upd G13 u (.tup [V.ref wl, V.int va]) = G14 at *
          refine ⟨u, _, rfl, SqT.of h_u, rfl, _, _, rfl, _, _, rfl, rfl, ?_⟩
          obtain ⟨ia, rfl⟩ : ∃ ia : Nat, va = (ia : Int) := ⟨va.toNat, (Int.toNat_of_nonneg va0).symm⟩
          have b14 : But d G11 G14 := ((But.of s_wl).trans bt13).trans (But.of s_u)
          have hwl14 := s_u _ _ (bt13 _ _ dw.symm h_wl)
          have hq14 := b14 _ _ qd hq11; have hr14 := b14 _ _ r2d hr11; have oy14 := oy11.but b14; have pen14 := pen13.same s_u
          have tb14 := (((tb11.ext s_wl).pen pen12 bt13).ext s_u)
          clear s_wl h_wl bt13 s_u h_u n_u pen13 pen12 b14 hq11 hr11 oy11 pen11 tb11 n_wl
          have wlen : (txs (cw L)).length = 2 + m := by rw [txs_len, cw_len, hLl]
          have hia : ia < 2 + m := by omega
          have lat : ∀ i : Nat, i < 2 + m → ∃ la : Nat, L[i]? = some la ∧ 1 ≤ la ∧ la ≤ 25 := fun i hi => ⟨_, List.getElem?_eq_getElem (by omega), GL.at (List.getElem?_eq_getElem (by omega))⟩
          have wat : ∀ i : Nat, i < 2 + m → ∃ x : List Nat, (cw L)[i]? = some x ∧ x.length ≤ 25 := fun i hi => by
            obtain ⟨la, hla, r1, r3⟩ := lat i hi
            have hx := List.getElem?_eq_getElem (l := cw L) (i := i) (by rw [cw_len]; omega)
            exact ⟨_, hx, by rw [((cw_ok GL).bit i _ la hx hla).1]; exact r3⟩
          obtain ⟨la, hla, la1, la2⟩ := lat ia hia; obtain ⟨xa, hxa, lxa⟩ := wat ia hia; obtain ⟨x0, hx0, lx0⟩ := wat 0 (by omega)
          have sz25 : 25 ≤ sizeLine := by decide
          refine ⟨_, rfl, _, rfl, _, rfl, q, _, _, _, rfl, rfl, SqL.of hq14, at_of rfl (Ls_at hla), _, _, rfl, rfl, rfl, by omega, by omega, fun s1 hs1 => ?_⟩
          refine ⟨_, rfl, _, rfl, q, _, _, _, rfl, rfl, SqL.of hq14, at_of rfl (Ls_at hla), _, _, rfl, rfl, rfl, by omega, by omega, fun s2 hs2 => ?_⟩
          refine ⟨_, rfl, wl, _, _, _, rfl, rfl, SqL.of hwl14, at_of (j := 0) rfl (txs_at hx0), ?_⟩
          refine ⟨_, rfl, _, rfl, wl, _, _, _, rfl, rfl, SqL.of hwl14, at_of rfl (txs_at hxa), _, rfl, by rw [txt_len]; omega, fun s3 hs3 => ?_⟩
          rw [txt_len] at hs3
          refine ⟨(by show 8 ≤ sizeLine; decide), fun pl n_pl => ?_⟩
          have s_pl : Same G14 (upd G14 pl (.lst [V.non, V.str "", V.str "2", V.int 0, V.str s1, V.str s2, V.str (txt x0), V.str s3])) := same_new n_pl
          have h_pl : upd G14 pl (.lst [V.non, V.str "", V.str "2", V.int 0, V.str s1, V.str s2, V.str (txt x0), V.str s3]) pl = some (.lst [V.non, V.str "", V.str "2", V.int 0, V.str s1, V.str s2, V.str (txt x0), V.str s3]) := upd_same
          generalize upd G14 pl (.lst [V.non, V.str "", V.str "2", V.int 0, V.str s1, V.str s2, V.str (txt x0), V.str s3]) = G15 at *
          have pld : pl ≠ d := let ⟨x, e⟩ := pen14.some; (ne_of_none e n_pl).symm
          refine ⟨d, l, pl, _, k13, rfl, pen14.same s_pl, h_pl, (by show 0 < 8; decide), (by show 8 < 1000; decide), by omega, fun w1 G16 k16 hw1 hk16 pen16 bt16 => ?_⟩
          have slen : ∀ z : Str, z.cps.toList.length = z.length := fun z => by simp [Str.length]
          have pw1 : isAt w1 = true ∧ short w1 := by
            simp only [List.mem_cons, List.not_mem_nil, or_false] at hw1
            rcases hw1 with rfl | rfl | rfl | rfl | rfl | rfl | rfl | rfl
            · exact ⟨rfl, fun z e => nomatch e⟩
            · exact ⟨rfl, fun z e => by cases e; decide⟩
            · exact ⟨rfl, fun z e => by cases e; decide⟩
            · exact ⟨rfl, fun z e => nomatch e⟩
            · exact ⟨rfl, fun z e => by cases e; rw [slen]; omega⟩
            · exact ⟨rfl, fun z e => by cases e; rw [slen]; omega⟩
            · exact ⟨rfl, fun z e => by cases e; rw [slen, txt_len]; omega⟩
            · exact ⟨rfl, fun z e => by cases e; rw [slen]; omega⟩
          have b16 := (But.of s_pl).trans bt16
          have hwl16 := b16 _ _ dw.symm hwl14
          refine ⟨_, rfl, _, rfl, wl, _, _, ia, rfl, rfl, hwl16, ixN_nat (by omega), ?_⟩
          have f17 : But wl G16 (upd G16 wl (.lst ((txs (cw L)).set ia w1))) := fun b o n e => by rw [upd_ne n]; exact e
          have hwl17 : upd G16 wl (.lst ((txs (cw L)).set ia w1)) wl = some (.lst ((txs (cw L)).set ia w1)) := upd_same
          have pen17 : Pen (upd G16 wl (.lst ((txs (cw L)).set ia w1))) d l k16 := pen16.upd dw lw
          have tb17 : Tabs (TL A) (upd G16 wl (.lst ((txs (cw L)).set ia w1))) := fun pq hpq => by
            obtain ⟨ps, t1, t2, t3⟩ := ((tb14.ext s_pl).pen (pen14.same s_pl) bt16) pq hpq
            refine ⟨ps, f17 _ _ (ne_of t1 hwl16 (fun z => nomatch z)) t1, t2, fun pos cv hc => ?_⟩
            obtain ⟨cc, u1, u2⟩ := t3 pos cv hc
            exact ⟨cc, u1, f17 _ _ (ne_of u2 hwl16 (fun z => by unfold CodeO at z; cases z)) u2⟩
          have hws : ∀ u ∈ (txs (cw L)).set ia w1, isAt u = true ∧ short u := fun u hu => by
            rcases List.mem_or_eq_of_mem_set hu with h | rfl
            · obtain ⟨i, hi, e⟩ := List.getElem_of_mem h
              obtain ⟨x, hx, rfl⟩ := txs_of (show (txs (cw L))[i]? = some u by rw [List.getElem?_eq_getElem hi, e])
              have ih : i < 2 + m := by omega
              obtain ⟨x2, hx2, lx2⟩ := wat i ih
              rw [hx] at hx2; cases hx2
              exact ⟨rfl, fun z e => by cases e; rw [slen, txt_len]; omega⟩
            · exact pw1
          have wlen2 : ((txs (cw L)).set ia w1).length = 2 + m := by rw [List.length_set]; exact wlen
          have hq17 := f17 _ _ qw (b16 _ _ qd hq14); have hr17 := f17 _ _ r2w (b16 _ _ r2d hr14)
          have oy17 : OddD K (upd G16 wl (.lst ((txs (cw L)).set ia w1))) d ys3 := fun y hy => ⟨((oy14.but b16) y hy).1.but (oyw y hy) f17, (oy14 y hy).2⟩
          generalize upd G16 wl (.lst ((txs (cw L)).set ia w1)) = G17 at *
          generalize (txs (cw L)).set ia w1 = WS at *
          clear f17 hwl16 b16 hw1 pw1 s_pl h_pl n_pl bt16 pen16 hwl14 hq14 hr14 oy14 pen14 tb14 hs1 hs2 hs3 hx0 hxa hla la1 la2 lxa lx0 wlen
          refine ⟨_, rfl, _, rfl, d, l, _, k16, rfl, pen17, by omega, by omega, by omega, fun vo G18 k18 vo0 vo1 hk18 pen18 bt18 => ?_⟩
          obtain ⟨io, rfl⟩ : ∃ io : Nat, vo = (io : Int) := ⟨vo.toNat, (Int.toNat_of_nonneg vo0).symm⟩
          have hio : io < 2 + m := by omega
          obtain ⟨lo1, hlo, lo2, lo3⟩ := lat io hio
          have hwl18 := bt18 _ _ dw.symm hwl17; have hq18 := bt18 _ _ qd hq17; have hr18 := bt18 _ _ r2d hr17; have oy18 := oy17.but bt18; have tb18 := tb17.pen pen17 bt18
          clear bt18 hwl17 hq17 hr17 oy17 tb17 pen17
          have hwo := List.getElem?_eq_getElem (l := WS) (i := io) (by omega)
          have hwom := List.mem_of_getElem? hwo
          generalize WS[io] = wo at hwo hwom
          refine ⟨_, rfl, _, rfl, _, rfl, wl, _, _, _, rfl, rfl, SqL.of hwl18, at_of rfl hwo, _, rfl, _, rfl, wl, _, _, _, rfl, rfl, SqL.of hwl18, at_of rfl hwo, _, rfl, _, rfl, q, _, _, _, rfl, rfl, SqL.of hq18, at_of rfl (Ls_at hlo), _, _, rfl, rfl, rfl, by omega, by omega, fun s4 hs4 => ⟨(by show 1 ≤ sizeLine; decide), fun g1 n_g1 => ?_⟩⟩
          have s_g1 : Same G18 (upd G18 g1 (.lst [V.str "0"])) := same_new n_g1
          have h_g1 : upd G18 g1 (.lst [V.str "0"]) g1 = some (.lst [V.str "0"]) := upd_same
          generalize upd G18 g1 (.lst [V.str "0"]) = G19 at *
          refine ⟨_, rfl, _, rfl, q, _, _, _, rfl, rfl, SqL.of (s_g1 _ _ hq18), at_of rfl (Ls_at hlo), _, _, rfl, rfl, rfl, by omega, by omega, fun s5 hs5 => ⟨(by show 5 ≤ sizeLine; decide), fun pl n_pl => ?_⟩⟩
          have s_pl : Same G19 (upd G19 pl (.lst [wo, wo, V.str s4, V.ref g1, V.str s5])) := same_new n_pl
          have h_pl : upd G19 pl (.lst [wo, wo, V.str s4, V.ref g1, V.str s5]) pl = some (.lst [wo, wo, V.str s4, V.ref g1, V.str s5]) := upd_same
          generalize upd G19 pl (.lst [wo, wo, V.str s4, V.ref g1, V.str s5]) = G20 at *
          have s1820 := s_g1.trans s_pl
          have pen20 := pen18.same s1820
          have g1d : g1 ≠ d := let ⟨x, e⟩ := pen18.some; (ne_of_none e n_g1).symm
          have g1w : g1 ≠ wl := (ne_of_none hwl18 n_g1).symm
          refine ⟨d, l, pl, _, k18, rfl, pen20, h_pl, (by show 0 < 5; decide), (by show 5 < 1000; decide), by omega, fun w2 G21 k21 hw2 hk21 pen21 bt21 => ?_⟩
          have b21 := (But.of s1820).trans bt21
          have hg121 := bt21 _ _ g1d (s_pl _ _ h_g1)
          have hwl21 := b21 _ _ dw.symm hwl18
          refine ⟨_, rfl, _, rfl, wl, _, _, io, rfl, rfl, hwl21, ixN_nat (by omega), ?_⟩
          have f22 : But wl G21 (upd G21 wl (.lst (WS.set io w2))) := fun b o n e => by rw [upd_ne n]; exact e
          have hwl22 : upd G21 wl (.lst (WS.set io w2)) wl = some (.lst (WS.set io w2)) := upd_same
          have pen22 : Pen (upd G21 wl (.lst (WS.set io w2))) d l k21 := pen21.upd dw lw
          have tb22 : Tabs (TL A) (upd G21 wl (.lst (WS.set io w2))) := fun pq hpq => by
            obtain ⟨ps, t1, t2, t3⟩ := ((tb18.ext s1820).pen pen20 bt21) pq hpq
            refine ⟨ps, f22 _ _ (ne_of t1 hwl21 (fun z => nomatch z)) t1, t2, fun pos cv hc => ?_⟩
            obtain ⟨cc, u1, u2⟩ := t3 pos cv hc
            exact ⟨cc, u1, f22 _ _ (ne_of u2 hwl21 (fun z => by unfold CodeO at z; cases z)) u2⟩
          have oW : OddD K (upd G21 wl (.lst (WS.set io w2))) d (WS.set io w2) ∧ ∀ u ∈ WS.set io w2, short u := by
            have at1 : ∀ {u : V} {G : Hp}, isAt u = true → Odd K G u ∧ u ≠ .ref d := fun {u G} h => ⟨(odd_flat h).1, (odd_flat (G := G) (K := K) h).2 d⟩
            have k2 : (Odd K (upd G21 wl (.lst (WS.set io w2))) w2 ∧ w2 ≠ .ref d) ∧ short w2 := by
              simp only [List.mem_cons, List.not_mem_nil, or_false] at hw2
              rcases hw2 with rfl | rfl | rfl | rfl | rfl
              · exact ⟨at1 (hws _ hwom).1, (hws _ hwom).2⟩
              · exact ⟨at1 (hws _ hwom).1, (hws _ hwom).2⟩
              · exact ⟨at1 rfl, fun z e => by cases e; rw [slen]; omega⟩
              · exact ⟨⟨.lst (f22 _ _ g1w hg121), rn g1d⟩, fun z e => nomatch e⟩
              · exact ⟨at1 rfl, fun z e => by cases e; rw [slen]; omega⟩
            refine ⟨fun u hu => ?_, fun u hu => ?_⟩
            · rcases List.mem_or_eq_of_mem_set hu with h | rfl
              · exact at1 (hws u h).1
              · exact k2.1
            · rcases List.mem_or_eq_of_mem_set hu with h | rfl
              · exact (hws u h).2
              · exact k2.2
          have hq22 := f22 _ _ qw (b21 _ _ qd hq18); have hr22 := f22 _ _ r2w (b21 _ _ r2d hr18)
          have oy22 : OddD K (upd G21 wl (.lst (WS.set io w2))) d ys3 := fun y hy => ⟨((oy18.but b21) y hy).1.but (oyw y hy) f22, (oy18 y hy).2⟩
          have wlen3 : (WS.set io w2).length = 2 + m := by rw [List.length_set]; exact wlen2
          generalize upd G21 wl (.lst (WS.set io w2)) = G22 at *
          obtain ⟨oW, sW⟩ := oW
          generalize WS.set io w2 = W2 at *
          clear f22 hwl21 hg121 b21 hw2 s_pl h_pl n_pl s_g1 h_g1 n_g1 bt21 pen21 pen20 s1820 hwl18 hq18 hr18 oy18 tb18 pen18 hs4 hs5 hwo hwom hws oyw hlo lo2 lo3
          refine ⟨_, rfl, _, rfl, (by show 2 ≤ sizeLine; decide), fun lo n_lo => ⟨lo, rfl, ⟨_, SqL.of upd_same⟩, ?_⟩⟩
          have slo : Same G22 (upd G22 lo (.lst [V.ref q, V.ref r3])) := same_new n_lo
          have hlo : upd G22 lo (.lst [V.ref q, V.ref r3]) lo = some (.lst [V.ref q, V.ref r3]) := upd_same
          generalize upd G22 lo (.lst [V.ref q, V.ref r3]) = G23 at *
          refine for_it (walk_list (K := K) (a := lo) (xs := [V.ref q, V.ref r3])) (fun i σ G => (∃ y11 y12 y13 y14, σ = [some (.ref a), some (.ref d), some (.int (0 + (j : Int))), some (.int (2 + (m : Int))), some (.ref p), some (.ref q), some (.ref r3), some (.ref od), some (.ref wl), some (.int (ia : Int)), some (.int (io : Int)), y11, y12, y13, y14]) ∧ Tabs (TL A) G ∧ ExtN G23 G) ⟨⟨_, _, _, _, rfl⟩, tb22.ext slo, ExtN.refl _⟩ (fun i σ G _ hP => SqL.of (hP.2.2 _ _ hlo (fun _ z => nomatch z))) ?_ ?_
          · rintro i x σ G G' hi ⟨⟨y11, y12, y13, y14, rfl⟩, tb, eG⟩ ⟨rfl, hx⟩
            have e22 : ExtN G22 G' := ExtN.trans (fun b o e _ => slo b o e) eG
            have hone : ∃ on xo, x = .ref on ∧ G22 on = some (.lst xo) ∧ OddD K G22 d xo ∧ xo.length ≤ 60 := by
              match i, hx with
              | 0, hx => cases hx; exact ⟨q, _, rfl, hq22, oL, by omega⟩
              | 1, hx => cases hx; exact ⟨r3, _, rfl, hr22, oy22, by omega⟩
              | i + 2, hx => exact absurd hi (by show ¬ (i + 2 < 2); omega)
            obtain ⟨on, xo, rfl, hon, oxo, lxo⟩ := hone
            clear hx
            refine ⟨_, rfl, on, xo, rfl, .inl (SqL.of (e22 _ _ hon (fun _ z => nomatch z))), _, rfl, rfl, _, rfl, ?_⟩
            by_cases ce : ((xo.length : Nat) : Int) = 2 + (m : Int)
            case neg =>
              rw [show decide (V.int ((xo.length : Nat) : Int) = V.int (2 + (m : Int))) = false from decide_eq_false (fun z => ce (by injection z))]
              exact iteF ⟨_, rfl, rfl, _, rfl, iteF ⟨⟨_, _, _, _, rfl⟩, tb, eG⟩⟩
            rw [show decide (V.int ((xo.length : Nat) : Int) = V.int (2 + (m : Int))) = true from decide_eq_true (by rw [ce])]
            have lxw : W2.length = xo.length := by omega
            have giw : ∀ {G3 : Hp}, ExtN G22 G3 → Giw K G3 (.ref wl) xo.length (some W2) := fun e => ⟨wl, rfl, e _ _ hwl22 (fun _ z => nomatch z), lxw, fun u hu => ⟨((oW.ext e) u hu).1, sW u hu⟩⟩
            refine iteT ⟨tb, fun H1 e1 tb1 t0 nt0 E1 Qn hM hC hL hF hW hB hN => ?_⟩
            have hE := told_E hM hC hL hF hW hB
            clear hM hC hL hF hW hB
            have sT : Same H1 (upd H1 t0 (.tup [])) := same_new nt0
            have h0 : upd H1 t0 (.tup []) t0 = some (.tup []) := upd_same
            generalize upd H1 t0 (.tup []) = H2 at *
            have eT : ExtN G' H2 := e1.trans fun b o e _ => sT b o e
            have eT2 := e22.trans eT
            refine ⟨_, rfl, _, rfl, code_use hE hN h0 (eT2 _ _ hon (fun _ z => nomatch z)) (oxo.ext eT2).odd (g := some W2) (giw eT2) (fun r hd t G9 s9 ht => ?_)⟩
            clear hE hN h0
            have e9 : ExtN G22 G9 := eT2.trans fun b o e _ => s9 b o e
            refine ⟨_, rfl, rfl, _, rfl, iteT ⟨_, rfl, _, rfl, _, rfl, on, .ref wl, xo, some W2, rfl, e9 _ _ hon (fun _ z => nomatch z), by omega, (oxo.ext e9).odd, giw e9, fun r' t2 G10 hd2 s10 ht2 => ?_⟩⟩
            cases hd.uniq hd2
            refine ne_same (hd.dat K) (s10 _ _ ht) ht2 ⟨_, rfl, iteF ⟨⟨_, _, _, _, rfl⟩, ((tb1.ext sT).ext s9).ext s10, ?_⟩⟩
            exact ((eG.trans eT).trans fun b o e _ => s9 b o e).trans fun b o e _ => s10 b o e
          · rintro σ G ⟨⟨y11, y12, y13, y14, rfl⟩, tb, eG⟩
            have e22 : ExtN G22 G := ExtN.trans (fun b o e _ => slo b o e) eG
            exact ⟨⟨_, _, _, _, _, _, _, _, _, _, _, _, _, rfl⟩, ⟨k21, by omega, pen22.ext e22⟩, tb⟩
      · obtain ⟨GR, eGR⟩ : ∃ GR, GR = G21 := ⟨_, rfl⟩
        obtain ⟨kR, ekR⟩ : ∃ kR, kR = k21 := ⟨_, rfl⟩
        rw [← eGR] at pen21 tb21 hr21 hq21 oy21 ⊢
        rw [← ekR] at pen21
        have penR := pen21; have tbR := tb21; have hrR := hr21; have hqR := hq21; have oyR := oy21
        have hyR : ys2.length ≤ 60 := by omega
        have hkR : kR ≤ k + 50 := by omega
        clear pen21 tb21 hr21 hq21 oy21 os21 hod21 eGR ekR
        refine ⟨tbR, fun H1 e1 tb1 t0 nt0 E1 Qn hM hC hL hF hW hB hN => ?_⟩
        have hE := told_E hM hC hL hF hW hB
        clear hM hC hL hF hW hB
        have sT : Same H1 (upd H1 t0 (.tup [])) := same_new nt0
        have h0 : upd H1 t0 (.tup []) t0 = some (.tup []) := upd_same
        generalize upd H1 t0 (.tup []) = H2 at *
        have eT : ExtN GR H2 := e1.trans fun b o e _ => sT b o e
        refine ⟨_, rfl, code_use hE hN h0 (eT _ _ hrR (fun _ z => nomatch z)) (oyR.ext eT).odd (g := none) rfl (fun r hd t G9 s9 ht => ?_)⟩
        clear hE hN h0
        have e9 : ExtN GR G9 := eT.trans fun b o e _ => s9 b o e
        refine ⟨_, rfl, r2, .non, ys2, none, rfl, e9 _ _ hrR (fun _ z => nomatch z), by omega, (oyR.ext e9).odd, rfl, fun r' t2 G10 hd2 s10 ht2 => ?_⟩
        cases hd.uniq hd2
        refine ne_same (hd.dat K) (s10 _ _ ht) ht2 ⟨_, rfl, iteF ?_⟩
        have e10 : ExtN GR G10 := e9.trans fun b o e _ => s10 b o e
        have tb10 : Tabs (TL A) G10 := ((tb1.ext sT).ext s9).ext s10
        have pen10 := penR.ext e10; have hq10 := e10 _ _ hqR (fun _ z => nomatch z); have hr10 := e10 _ _ hrR (fun _ z => nomatch z); have oy10 := oyR.ext e10
        clear sT s9 s10 tb1 eT e9 e1 hd hd2 ht ht2 nt0 e10 tbR penR hqR hrR oyR
        have r2d : r2 ≠ d := let ⟨x, e⟩ := pen10.some; ne_of hr10 e (fun z => nomatch z)
        refine ⟨_, rfl, q, L, rfl, SqL.of hq10, GL, fun wp G11 s11 hT => ⟨wp, _, rfl, .inr hT, fun wl n_wl => ?_⟩⟩
        have hq11 := s11 _ _ hq10; have hr11 := s11 _ _ hr10; have pen11 := pen10.same s11; have oy11 := oy10.same s11; have tb11 := tb10.ext s11
        clear s11 hT hq10 hr10 pen10 oy10 tb10
        have qw : q ≠ wl := ne_of_none hq11 n_wl
        have r2w : r2 ≠ wl := ne_of_none hr11 n_wl
        have dw : d ≠ wl := let ⟨x, e⟩ := pen11.some; ne_of_none e n_wl
        have lw : l ≠ wl := let ⟨x, e⟩ := pen11.cells; ne_of_none e n_wl
        have oyw : ∀ y ∈ ys2, y ≠ .ref wl := fun y hy z => by
          have h := (oy11 y hy).1
          subst z
          cases h with
          | lst h => rw [n_wl] at h; cases h
          | tup h => rw [n_wl] at h; cases h
          | dct h => rw [n_wl] at h; cases h
          | ins h _ => rw [n_wl] at h; cases h
        have s_wl : Same G11 (upd G11 wl (.lst (txs (cw L)))) := same_new n_wl
        have h_wl : upd G11 wl (.lst (txs (cw L))) wl = some (.lst (txs (cw L))) := upd_same
        generalize upd G11 wl (.lst (txs (cw L))) = G12 at *
        have pen12 := pen11.same s_wl
        refine ⟨_, rfl, _, rfl, d, l, _, kR, rfl, pen12, by omega, by omega, by omega, fun va G13 k13 va0 va1 hk13 pen13 bt13 => ⟨(by show 2 ≤ sizeLine; decide), fun u n_u => ?_⟩⟩
        have s_u : Same G13 (upd G13 u (.tup [V.ref wl, V.int va])) := same_new n_u
        have h_u : upd G13 u (.tup [V.ref wl, V.int va]) u = some (.tup [V.ref wl, V.int va]) := upd_same
        generalize upd G13 u (.tup [V.ref wl, V.int va]) = G14 at *
        refine ⟨u, _, rfl, SqT.of h_u, rfl, _, _, rfl, _, _, rfl, rfl, ?_⟩
        obtain ⟨ia, rfl⟩ : ∃ ia : Nat, va = (ia : Int) := ⟨va.toNat, (Int.toNat_of_nonneg va0).symm⟩
        have b14 : But d G11 G14 := ((But.of s_wl).trans bt13).trans (But.of s_u)
        have hwl14 := s_u _ _ (bt13 _ _ dw.symm h_wl)
        have hq14 := b14 _ _ qd hq11; have hr14 := b14 _ _ r2d hr11; have oy14 := oy11.but b14; have pen14 := pen13.same s_u
        have tb14 := (((tb11.ext s_wl).pen pen12 bt13).ext s_u)
        clear s_wl h_wl bt13 s_u h_u n_u pen13 pen12 b14 hq11 hr11 oy11 pen11 tb11 n_wl
        have wlen : (txs (cw L)).length = 2 + m := by rw [txs_len, cw_len, hLl]
        have hia : ia < 2 + m := by omega
        have lat : ∀ i : Nat, i < 2 + m → ∃ la : Nat, L[i]? = some la ∧ 1 ≤ la ∧ la ≤ 25 := fun i hi => ⟨_, List.getElem?_eq_getElem (by omega), GL.at (List.getElem?_eq_getElem (by omega))⟩
        have wat : ∀ i : Nat, i < 2 + m → ∃ x : List Nat, (cw L)[i]? = some x ∧ x.length ≤ 25 := fun i hi => by
          obtain ⟨la, hla, r1, r2⟩ := lat i hi
          have hx := List.getElem?_eq_getElem (l := cw L) (i := i) (by rw [cw_len]; omega)
          exact ⟨_, hx, by rw [((cw_ok GL).bit i _ la hx hla).1]; exact r2⟩
        obtain ⟨la, hla, la1, la2⟩ := lat ia hia; obtain ⟨xa, hxa, lxa⟩ := wat ia hia; obtain ⟨x0, hx0, lx0⟩ := wat 0 (by omega)
        have sz25 : 25 ≤ sizeLine := by decide
        refine ⟨_, rfl, _, rfl, _, rfl, q, _, _, _, rfl, rfl, SqL.of hq14, at_of rfl (Ls_at hla), _, _, rfl, rfl, rfl, by omega, by omega, fun s1 hs1 => ?_⟩
        refine ⟨_, rfl, _, rfl, q, _, _, _, rfl, rfl, SqL.of hq14, at_of rfl (Ls_at hla), _, _, rfl, rfl, rfl, by omega, by omega, fun s2 hs2 => ?_⟩
        refine ⟨_, rfl, wl, _, _, _, rfl, rfl, SqL.of hwl14, at_of (j := 0) rfl (txs_at hx0), ?_⟩
        refine ⟨_, rfl, _, rfl, wl, _, _, _, rfl, rfl, SqL.of hwl14, at_of rfl (txs_at hxa), _, rfl, by rw [txt_len]; omega, fun s3 hs3 => ?_⟩
        rw [txt_len] at hs3
        refine ⟨(by show 8 ≤ sizeLine; decide), fun pl n_pl => ?_⟩
        have s_pl : Same G14 (upd G14 pl (.lst [V.non, V.str "", V.str "2", V.int 0, V.str s1, V.str s2, V.str (txt x0), V.str s3])) := same_new n_pl
        have h_pl : upd G14 pl (.lst [V.non, V.str "", V.str "2", V.int 0, V.str s1, V.str s2, V.str (txt x0), V.str s3]) pl = some (.lst [V.non, V.str "", V.str "2", V.int 0, V.str s1, V.str s2, V.str (txt x0), V.str s3]) := upd_same
        generalize upd G14 pl (.lst [V.non, V.str "", V.str "2", V.int 0, V.str s1, V.str s2, V.str (txt x0), V.str s3]) = G15 at *
        have pld : pl ≠ d := let ⟨x, e⟩ := pen14.some; (ne_of_none e n_pl).symm
        refine ⟨d, l, pl, _, k13, rfl, pen14.same s_pl, h_pl, (by show 0 < 8; decide), (by show 8 < 1000; decide), by omega, fun w1 G16 k16 hw1 hk16 pen16 bt16 => ?_⟩
        have slen : ∀ z : Str, z.cps.toList.length = z.length := fun z => by simp [Str.length]
        have pw1 : isAt w1 = true ∧ short w1 := by
          simp only [List.mem_cons, List.not_mem_nil, or_false] at hw1
          rcases hw1 with rfl | rfl | rfl | rfl | rfl | rfl | rfl | rfl
          · exact ⟨rfl, fun z e => nomatch e⟩
          · exact ⟨rfl, fun z e => by cases e; decide⟩
          · exact ⟨rfl, fun z e => by cases e; decide⟩
          · exact ⟨rfl, fun z e => nomatch e⟩
          · exact ⟨rfl, fun z e => by cases e; rw [slen]; omega⟩
          · exact ⟨rfl, fun z e => by cases e; rw [slen]; omega⟩
          · exact ⟨rfl, fun z e => by cases e; rw [slen, txt_len]; omega⟩
          · exact ⟨rfl, fun z e => by cases e; rw [slen]; omega⟩
        have b16 := (But.of s_pl).trans bt16
        have hwl16 := b16 _ _ dw.symm hwl14
        refine ⟨_, rfl, _, rfl, wl, _, _, ia, rfl, rfl, hwl16, ixN_nat (by omega), ?_⟩
        have f17 : But wl G16 (upd G16 wl (.lst ((txs (cw L)).set ia w1))) := fun b o n e => by rw [upd_ne n]; exact e
        have hwl17 : upd G16 wl (.lst ((txs (cw L)).set ia w1)) wl = some (.lst ((txs (cw L)).set ia w1)) := upd_same
        have pen17 : Pen (upd G16 wl (.lst ((txs (cw L)).set ia w1))) d l k16 := pen16.upd dw lw
        have tb17 : Tabs (TL A) (upd G16 wl (.lst ((txs (cw L)).set ia w1))) := fun pq hpq => by
          obtain ⟨ps, t1, t2, t3⟩ := ((tb14.ext s_pl).pen (pen14.same s_pl) bt16) pq hpq
          refine ⟨ps, f17 _ _ (ne_of t1 hwl16 (fun z => nomatch z)) t1, t2, fun pos cv hc => ?_⟩
          obtain ⟨cc, u1, u2⟩ := t3 pos cv hc
          exact ⟨cc, u1, f17 _ _ (ne_of u2 hwl16 (fun z => by unfold CodeO at z; cases z)) u2⟩
        have hws : ∀ u ∈ (txs (cw L)).set ia w1, isAt u = true ∧ short u := fun u hu => by
          rcases List.mem_or_eq_of_mem_set hu with h | rfl
          · obtain ⟨i, hi, e⟩ := List.getElem_of_mem h
            obtain ⟨x, hx, rfl⟩ := txs_of (show (txs (cw L))[i]? = some u by rw [List.getElem?_eq_getElem hi, e])
            have ih : i < 2 + m := by omega
            obtain ⟨x2, hx2, lx2⟩ := wat i ih
            rw [hx] at hx2; cases hx2
            exact ⟨rfl, fun z e => by cases e; rw [slen, txt_len]; omega⟩
          · exact pw1
        have wlen2 : ((txs (cw L)).set ia w1).length = 2 + m := by rw [List.length_set]; exact wlen
        have hq17 := f17 _ _ qw (b16 _ _ qd hq14); have hr17 := f17 _ _ r2w (b16 _ _ r2d hr14)
        have oy17 : OddD K (upd G16 wl (.lst ((txs (cw L)).set ia w1))) d ys2 := fun y hy => ⟨((oy14.but b16) y hy).1.but (oyw y hy) f17, (oy14 y hy).2⟩
        generalize upd G16 wl (.lst ((txs (cw L)).set ia w1)) = G17 at *
        generalize (txs (cw L)).set ia w1 = WS at *
        clear f17 hwl16 b16 hw1 pw1 s_pl h_pl n_pl bt16 pen16 hwl14 hq14 hr14 oy14 pen14 tb14 hs1 hs2 hs3 hx0 hxa hla la1 la2 lxa lx0 wlen
        refine ⟨_, rfl, _, rfl, d, l, _, k16, rfl, pen17, by omega, by omega, by omega, fun vo G18 k18 vo0 vo1 hk18 pen18 bt18 => ?_⟩
        obtain ⟨io, rfl⟩ : ∃ io : Nat, vo = (io : Int) := ⟨vo.toNat, (Int.toNat_of_nonneg vo0).symm⟩
        have hio : io < 2 + m := by omega
        obtain ⟨lo1, hlo, lo2, lo3⟩ := lat io hio
        have hwl18 := bt18 _ _ dw.symm hwl17; have hq18 := bt18 _ _ qd hq17; have hr18 := bt18 _ _ r2d hr17; have oy18 := oy17.but bt18; have tb18 := tb17.pen pen17 bt18
        clear bt18 hwl17 hq17 hr17 oy17 tb17 pen17
        have hwo := List.getElem?_eq_getElem (l := WS) (i := io) (by omega)
        have hwom := List.mem_of_getElem? hwo
        generalize WS[io] = wo at hwo hwom
        refine ⟨_, rfl, _, rfl, _, rfl, wl, _, _, _, rfl, rfl, SqL.of hwl18, at_of rfl hwo, _, rfl, _, rfl, wl, _, _, _, rfl, rfl, SqL.of hwl18, at_of rfl hwo, _, rfl, _, rfl, q, _, _, _, rfl, rfl, SqL.of hq18, at_of rfl (Ls_at hlo), _, _, rfl, rfl, rfl, by omega, by omega, fun s4 hs4 => ⟨(by show 1 ≤ sizeLine; decide), fun g1 n_g1 => ?_⟩⟩
        have s_g1 : Same G18 (upd G18 g1 (.lst [V.str "0"])) := same_new n_g1
        have h_g1 : upd G18 g1 (.lst [V.str "0"]) g1 = some (.lst [V.str "0"]) := upd_same
        generalize upd G18 g1 (.lst [V.str "0"]) = G19 at *
        refine ⟨_, rfl, _, rfl, q, _, _, _, rfl, rfl, SqL.of (s_g1 _ _ hq18), at_of rfl (Ls_at hlo), _, _, rfl, rfl, rfl, by omega, by omega, fun s5 hs5 => ⟨(by show 5 ≤ sizeLine; decide), fun pl n_pl => ?_⟩⟩
        have s_pl : Same G19 (upd G19 pl (.lst [wo, wo, V.str s4, V.ref g1, V.str s5])) := same_new n_pl
        have h_pl : upd G19 pl (.lst [wo, wo, V.str s4, V.ref g1, V.str s5]) pl = some (.lst [wo, wo, V.str s4, V.ref g1, V.str s5]) := upd_same
        generalize upd G19 pl (.lst [wo, wo, V.str s4, V.ref g1, V.str s5]) = G20 at *
        have s1820 := s_g1.trans s_pl
        have pen20 := pen18.same s1820
        have g1d : g1 ≠ d := let ⟨x, e⟩ := pen18.some; (ne_of_none e n_g1).symm
        have g1w : g1 ≠ wl := (ne_of_none hwl18 n_g1).symm
        refine ⟨d, l, pl, _, k18, rfl, pen20, h_pl, (by show 0 < 5; decide), (by show 5 < 1000; decide), by omega, fun w2 G21 k21 hw2 hk21 pen21 bt21 => ?_⟩
        have b21 := (But.of s1820).trans bt21
        have hg121 := bt21 _ _ g1d (s_pl _ _ h_g1)
        have hwl21 := b21 _ _ dw.symm hwl18
        refine ⟨_, rfl, _, rfl, wl, _, _, io, rfl, rfl, hwl21, ixN_nat (by omega), ?_⟩
        have f22 : But wl G21 (upd G21 wl (.lst (WS.set io w2))) := fun b o n e => by rw [upd_ne n]; exact e
        have hwl22 : upd G21 wl (.lst (WS.set io w2)) wl = some (.lst (WS.set io w2)) := upd_same
        have pen22 : Pen (upd G21 wl (.lst (WS.set io w2))) d l k21 := pen21.upd dw lw
        have tb22 : Tabs (TL A) (upd G21 wl (.lst (WS.set io w2))) := fun pq hpq => by
          obtain ⟨ps, t1, t2, t3⟩ := ((tb18.ext s1820).pen pen20 bt21) pq hpq
          refine ⟨ps, f22 _ _ (ne_of t1 hwl21 (fun z => nomatch z)) t1, t2, fun pos cv hc => ?_⟩
          obtain ⟨cc, u1, u2⟩ := t3 pos cv hc
          exact ⟨cc, u1, f22 _ _ (ne_of u2 hwl21 (fun z => by unfold CodeO at z; cases z)) u2⟩
        have oW : OddD K (upd G21 wl (.lst (WS.set io w2))) d (WS.set io w2) ∧ ∀ u ∈ WS.set io w2, short u := by
          have at1 : ∀ {u : V} {G : Hp}, isAt u = true → Odd K G u ∧ u ≠ .ref d := fun {u G} h => ⟨(odd_flat h).1, (odd_flat (G := G) (K := K) h).2 d⟩
          have k2 : (Odd K (upd G21 wl (.lst (WS.set io w2))) w2 ∧ w2 ≠ .ref d) ∧ short w2 := by
            simp only [List.mem_cons, List.not_mem_nil, or_false] at hw2
            rcases hw2 with rfl | rfl | rfl | rfl | rfl
            · exact ⟨at1 (hws _ hwom).1, (hws _ hwom).2⟩
            · exact ⟨at1 (hws _ hwom).1, (hws _ hwom).2⟩
            · exact ⟨at1 rfl, fun z e => by cases e; rw [slen]; omega⟩
            · exact ⟨⟨.lst (f22 _ _ g1w hg121), rn g1d⟩, fun z e => nomatch e⟩
            · exact ⟨at1 rfl, fun z e => by cases e; rw [slen]; omega⟩
          refine ⟨fun u hu => ?_, fun u hu => ?_⟩
          · rcases List.mem_or_eq_of_mem_set hu with h | rfl
            · exact at1 (hws u h).1
            · exact k2.1
          · rcases List.mem_or_eq_of_mem_set hu with h | rfl
            · exact (hws u h).2
            · exact k2.2
        have hq22 := f22 _ _ qw (b21 _ _ qd hq18); have hr22 := f22 _ _ r2w (b21 _ _ r2d hr18)
        have oy22 : OddD K (upd G21 wl (.lst (WS.set io w2))) d ys2 := fun y hy => ⟨((oy18.but b21) y hy).1.but (oyw y hy) f22, (oy18 y hy).2⟩
        have wlen3 : (WS.set io w2).length = 2 + m := by rw [List.length_set]; exact wlen2
        generalize upd G21 wl (.lst (WS.set io w2)) = G22 at *
        obtain ⟨oW, sW⟩ := oW
        generalize WS.set io w2 = W2 at *
        clear f22 hwl21 hg121 b21 hw2 s_pl h_pl n_pl s_g1 h_g1 n_g1 bt21 pen21 pen20 s1820 hwl18 hq18 hr18 oy18 tb18 pen18 hs4 hs5 hwo hwom hws oyw hlo lo2 lo3
        refine ⟨_, rfl, _, rfl, (by show 2 ≤ sizeLine; decide), fun lo n_lo => ⟨lo, rfl, ⟨_, SqL.of upd_same⟩, ?_⟩⟩
        have slo : Same G22 (upd G22 lo (.lst [V.ref q, V.ref r2])) := same_new n_lo
        have hlo : upd G22 lo (.lst [V.ref q, V.ref r2]) lo = some (.lst [V.ref q, V.ref r2]) := upd_same
        generalize upd G22 lo (.lst [V.ref q, V.ref r2]) = G23 at *
        refine for_it (walk_list (K := K) (a := lo) (xs := [V.ref q, V.ref r2])) (fun i σ G => (∃ y11 y12 y13 y14, σ = [some (.ref a), some (.ref d), some (.int (0 + (j : Int))), some (.int (2 + (m : Int))), some (.ref p), some (.ref q), some (.ref r2), some (.ref od), some (.ref wl), some (.int (ia : Int)), some (.int (io : Int)), y11, y12, y13, y14]) ∧ Tabs (TL A) G ∧ ExtN G23 G) ⟨⟨_, _, _, _, rfl⟩, tb22.ext slo, ExtN.refl _⟩ (fun i σ G _ hP => SqL.of (hP.2.2 _ _ hlo (fun _ z => nomatch z))) ?_ ?_
        · rintro i x σ G G' hi ⟨⟨y11, y12, y13, y14, rfl⟩, tb, eG⟩ ⟨rfl, hx⟩
          have e22 : ExtN G22 G' := ExtN.trans (fun b o e _ => slo b o e) eG
          have hone : ∃ on xo, x = .ref on ∧ G22 on = some (.lst xo) ∧ OddD K G22 d xo ∧ xo.length ≤ 60 := by
            match i, hx with
            | 0, hx => cases hx; exact ⟨q, _, rfl, hq22, oL, by omega⟩
            | 1, hx => cases hx; exact ⟨r2, _, rfl, hr22, oy22, by omega⟩
            | i + 2, hx => exact absurd hi (by show ¬ (i + 2 < 2); omega)
          obtain ⟨on, xo, rfl, hon, oxo, lxo⟩ := hone
          clear hx
          refine ⟨_, rfl, on, xo, rfl, .inl (SqL.of (e22 _ _ hon (fun _ z => nomatch z))), _, rfl, rfl, _, rfl, ?_⟩
          by_cases ce : ((xo.length : Nat) : Int) = 2 + (m : Int)
          case neg =>
            rw [show decide (V.int ((xo.length : Nat) : Int) = V.int (2 + (m : Int))) = false from decide_eq_false (fun z => ce (by injection z))]
            exact iteF ⟨_, rfl, rfl, _, rfl, iteF ⟨⟨_, _, _, _, rfl⟩, tb, eG⟩⟩
          rw [show decide (V.int ((xo.length : Nat) : Int) = V.int (2 + (m : Int))) = true from decide_eq_true (by rw [ce])]
          have lxw : W2.length = xo.length := by omega
          have giw : ∀ {G3 : Hp}, ExtN G22 G3 → Giw K G3 (.ref wl) xo.length (some W2) := fun e => ⟨wl, rfl, e _ _ hwl22 (fun _ z => nomatch z), lxw, fun u hu => ⟨((oW.ext e) u hu).1, sW u hu⟩⟩
          refine iteT ⟨tb, fun H1 e1 tb1 t0 nt0 E1 Qn hM hC hL hF hW hB hN => ?_⟩
          have hE := told_E hM hC hL hF hW hB
          clear hM hC hL hF hW hB
          have sT : Same H1 (upd H1 t0 (.tup [])) := same_new nt0
          have h0 : upd H1 t0 (.tup []) t0 = some (.tup []) := upd_same
          generalize upd H1 t0 (.tup []) = H2 at *
          have eT : ExtN G' H2 := e1.trans fun b o e _ => sT b o e
          have eT2 := e22.trans eT
          refine ⟨_, rfl, _, rfl, code_use hE hN h0 (eT2 _ _ hon (fun _ z => nomatch z)) (oxo.ext eT2).odd (g := some W2) (giw eT2) (fun r hd t G9 s9 ht => ?_)⟩
          clear hE hN h0
          have e9 : ExtN G22 G9 := eT2.trans fun b o e _ => s9 b o e
          refine ⟨_, rfl, rfl, _, rfl, iteT ⟨_, rfl, _, rfl, _, rfl, on, .ref wl, xo, some W2, rfl, e9 _ _ hon (fun _ z => nomatch z), by omega, (oxo.ext e9).odd, giw e9, fun r' t2 G10 hd2 s10 ht2 => ?_⟩⟩
          cases hd.uniq hd2
          refine ne_same (hd.dat K) (s10 _ _ ht) ht2 ⟨_, rfl, iteF ⟨⟨_, _, _, _, rfl⟩, ((tb1.ext sT).ext s9).ext s10, ?_⟩⟩
          exact ((eG.trans eT).trans fun b o e _ => s9 b o e).trans fun b o e _ => s10 b o e
        · rintro σ G ⟨⟨y11, y12, y13, y14, rfl⟩, tb, eG⟩
          have e22 : ExtN G22 G := ExtN.trans (fun b o e _ => slo b o e) eG
          exact ⟨⟨_, _, _, _, _, _, _, _, _, _, _, _, _, rfl⟩, ⟨k21, by omega, pen22.ext e22⟩, tb⟩
    · obtain ⟨⟨z2, z3, z4, z5, z6, z7, z8, z9, z10, z11, z12, z13, z14, rfl⟩, ⟨k, hk, pen⟩, tb⟩ := hP
      clear pen hk
      refine ⟨25, rfl, by decide, by decide, fun D nD => lc_range (lo := 0) (n := 25) (fun i G2 => Same G G2 ∧ G2 D = some (.lst ((List.range i).map fun (u : Nat) => V.int ((u + 1 : Nat) : Int)))) ⟨same_new nD, by rw [upd_same]; rfl⟩ (fun i G2 hi hP => ⟨rfl, yes_of ?_⟩) (fun G2 hP => ?_)⟩
      · obtain ⟨s2, h2⟩ := hP
        refine ⟨_, rfl, _, _, rfl, rfl, _, h2, by rw [List.length_map, List.length_range, sizeLine_eq]; omega, fun b o e => by rw [upd_ne (ne_of_none e nD)]; exact s2 _ _ e, ?_⟩
        rw [upd_same, List.range_succ, List.map_append]
        show some (HO.lst (_ ++ [V.int (0 + (i : Int) + 1)])) = some (HO.lst (_ ++ [V.int ((i + 1 : Nat) : Int)]))
        rw [show (0 : Int) + (i : Int) + 1 = ((i + 1 : Nat) : Int) by omega]
      obtain ⟨s2, h2⟩ := hP
      refine ⟨(by show 1 ≤ sizeLine; decide), fun e1 n_e1 => ?_⟩
      have s_e1 : Same G2 (upd G2 e1 (.lst [V.int 25])) := same_new n_e1
      have h_e1 : upd G2 e1 (.lst [V.int 25]) e1 = some (.lst [V.int 25]) := upd_same
      generalize upd G2 e1 (.lst [V.int 25]) = G3 at *
      refine ⟨_, _, _, _, rfl, rfl, s_e1 _ _ h2, h_e1, (by show 26 ≤ sizeLine; decide), fun lg n_lg => ?_⟩
      have eL : ((List.range 25).map fun (u : Nat) => V.int ((u + 1 : Nat) : Int)) ++ [V.int 25] = Ls ((List.range 25).map (· + 1) ++ [25]) := by rfl
      rw [eL]
      have s_lg : Same G3 (upd G3 lg (.lst (Ls ((List.range 25).map (· + 1) ++ [25])))) := same_new n_lg
      have h_lg : upd G3 lg (.lst (Ls ((List.range 25).map (· + 1) ++ [25]))) lg = some (.lst (Ls ((List.range 25).map (· + 1) ++ [25]))) := upd_same
      generalize upd G3 lg (.lst (Ls ((List.range 25).map (· + 1) ++ [25]))) = G4 at *
      have tb4 := ((tb.ext s2).ext s_e1).ext s_lg
      have hLG : ∀ l ∈ (List.range 25).map (· + 1) ++ [25], 1 ≤ l ∧ l ≤ 25 := by decide
      have hSG : (((List.range 25).map (· + 1) ++ [25]).map wid).sum = 2 ^ 25 := by decide +kernel
      have h26G : 2 ≤ (Ls ((List.range 25).map (· + 1) ++ [25])).length ∧ (Ls ((List.range 25).map (· + 1) ++ [25])).length ≤ 26 := by rw [Ls_len]; decide
      have oLG : ∀ {G : Hp}, ∀ x ∈ Ls ((List.range 25).map (· + 1) ++ [25]), Odd K G x := fun {G} => (OddD.ints K G 0 _).odd
      have lLG : (Ls ((List.range 25).map (· + 1) ++ [25])).length = 26 := by rw [Ls_len]; decide
      generalize hLG0 : (List.range 25).map (· + 1) ++ [25] = LG at *
      clear s_e1 h_e1 n_e1 s2 h2 nD eL n_lg s_lg hLG0
      refine ⟨tb4, fun H1 e1 tb1 t0 nt0 E1 Qn hM hC hL hF hW hB hN => ?_⟩
      have hE := told_E hM hC hL hF hW hB
      clear hM hC hL hF hW hB
      have sT : Same H1 (upd H1 t0 (.tup [])) := same_new nt0
      have h0 : upd H1 t0 (.tup []) t0 = some (.tup []) := upd_same
      generalize upd H1 t0 (.tup []) = H2 at *
      have eT : ExtN G4 H2 := e1.trans fun b o e _ => sT b o e
      refine ⟨_, rfl, code_use hE hN h0 (eT _ _ h_lg (fun _ z => nomatch z)) oLG (g := none) rfl (fun r hd t G9 s9 ht => ?_)⟩
      clear hE hN h0
      cases hd.uniq (.non h26G LG rfl hLG hSG rfl)
      refine ⟨(by show 0 ≤ sizeLine; decide), fun t2 nt2 => ?_⟩
      have s910 := same_new (o := .tup []) nt2
      have ht2 : upd G9 t2 (.tup []) t2 = some (.tup []) := upd_same
      have ht3 := s910 _ _ ht
      generalize upd G9 t2 (.tup []) = G10 at *
      refine ne_same ⟨_, dat_nil K⟩ ht3 ht2 ⟨_, rfl, iteF ?_⟩
      have e10 : ExtN G4 G10 := (eT.trans fun b o e _ => s9 b o e).trans fun b o e _ => s910 b o e
      have tb4 : Tabs (TL A) G10 := ((tb1.ext sT).ext s9).ext s910
      have h_lg := e10 _ _ h_lg (fun _ z => nomatch z)
      clear e10 sT s9 s910 tb1 eT e1 hd ht ht2 ht3 nt2 nt0
      refine ⟨tb4, fun H1 e1 tb1 t0 nt0 E1 Qn hM hC hL hF hW hB hN => ?_⟩
      have hE := told_E hM hC hL hF hW hB
      clear hM hC hL hF hW hB
      have sT : Same H1 (upd H1 t0 (.tup [])) := same_new nt0
      have h0 : upd H1 t0 (.tup []) t0 = some (.tup []) := upd_same
      generalize upd H1 t0 (.tup []) = H2 at *
      have eT : ExtN G10 H2 := e1.trans fun b o e _ => sT b o e
      refine ⟨(by show 1 ≤ sizeLine; decide), fun q nq => ⟨q, 26, _, rfl, rfl, upd_same, by decide, by decide, (by show 1 * 26 ≤ sizeLine; decide), fun rr nrr => ?_⟩⟩
      rw [show (26 : Int).toNat = 26 from rfl, rep_flat]
      have sH : Same H2 (upd (upd H2 q (.lst [V.int 1])) rr (.lst (List.replicate 26 (V.int 1)))) := (same_new nq).trans (same_new nrr)
      have hrr : upd (upd H2 q (.lst [V.int 1])) rr (.lst (List.replicate 26 (V.int 1))) rr = some (.lst (List.replicate 26 (V.int 1))) := upd_same
      generalize upd (upd H2 q (.lst [V.int 1])) rr (.lst (List.replicate 26 (V.int 1))) = H3 at *
      refine check_use hE hN (sH _ _ h0) (.inl (SqL.of hrr)) (fun x hx => by rw [(List.mem_replicate.mp hx).2]; exact .int 1) (fun r hd t G9 s9 ht => ?_)
      clear hE hN h0
      cases hd.uniq (.ok (by rw [List.length_replicate]; decide) (fun x hx => by rw [(List.mem_replicate.mp hx).2]; rfl))
      refine ⟨(by show 0 ≤ sizeLine; decide), fun t2 nt2 => ?_⟩
      have s911 := same_new (o := .tup []) nt2
      have ht2 : upd G9 t2 (.tup []) t2 = some (.tup []) := upd_same
      have ht3 := s911 _ _ ht
      generalize upd G9 t2 (.tup []) = G11 at *
      refine ne_same ⟨_, dat_nil K⟩ ht3 ht2 ⟨_, rfl, iteF ?_⟩
      have e11 : ExtN G10 G11 := ((eT.trans fun b o e _ => sH b o e).trans fun b o e _ => s9 b o e).trans fun b o e _ => s911 b o e
      have tb4 : Tabs (TL A) G11 := (((tb1.ext sT).ext sH).ext s9).ext s911
      have h_lg := e11 _ _ h_lg (fun _ z => nomatch z)
      clear e11 sT sH s9 s911 tb1 eT e1 hd ht ht2 ht3 nt2 nt0 hrr nq nrr
      refine ⟨tb4, fun H1 e1 tb1 t0 nt0 E1 Qn hM hC hL hF hW hB hN => ?_⟩
      have hE := told_E hM hC hL hF hW hB
      clear hM hC hL hF hW hB
      have sT : Same H1 (upd H1 t0 (.tup [])) := same_new nt0
      have h0 : upd H1 t0 (.tup []) t0 = some (.tup []) := upd_same
      generalize upd H1 t0 (.tup []) = H2 at *
      have eT : ExtN G11 H2 := e1.trans fun b o e _ => sT b o e
      refine ⟨_, rfl, (by show 1 ≤ sizeLine; decide), fun q nq => ?_⟩
      have hl2 : upd H2 q (.lst [V.int 25]) lg = some (.lst (Ls LG)) := by rw [upd_ne (ne_of_none (eT _ _ h_lg (fun _ z => nomatch z)) nq)]; exact eT _ _ h_lg (fun _ z => nomatch z)
      refine ⟨_, _, _, _, rfl, rfl, hl2, upd_same, by rw [lLG]; decide, fun rr nrr => ?_⟩
      have sH : Same H2 (upd (upd H2 q (.lst [V.int 25])) rr (.lst (Ls LG ++ [V.int 25]))) := (same_new nq).trans (same_new nrr)
      have hrr : upd (upd H2 q (.lst [V.int 25])) rr (.lst (Ls LG ++ [V.int 25])) rr = some (.lst (Ls LG ++ [V.int 25])) := upd_same
      generalize upd (upd H2 q (.lst [V.int 25])) rr (.lst (Ls LG ++ [V.int 25])) = H3 at *
      have l27 : (Ls LG ++ [V.int 25]).length = 27 := by rw [List.length_append, lLG]; rfl
      have o27 : ∀ x ∈ Ls LG ++ [V.int 25], Odd K H3 x := fun x hx => by
        rcases List.mem_append.mp hx with h | h
        · exact oLG x h
        · simp only [List.mem_cons, List.not_mem_nil, or_false] at h; subst h; exact .int 25
      generalize Ls LG ++ [V.int 25] = xs3 at *
      refine code_use hE hN (sH _ _ h0) hrr o27 (g := none) rfl (fun r hd t G9 s9 ht => ?_)
      clear hE hN h0
      cases hd.uniq (.many (by rw [l27]; decide))
      rw [l27] at ht
      refine ⟨(by show 3 ≤ sizeLine; decide), fun t2 nt2 => ?_⟩
      have s911 := same_new (o := .tup [V.str "signs", V.int 27, V.int 26]) nt2
      have ht2 : upd G9 t2 (.tup [V.str "signs", V.int 27, V.int 26]) t2 = some (.tup [V.str "signs", V.int 27, V.int 26]) := upd_same
      have ht3 := s911 _ _ ht
      generalize upd G9 t2 (.tup [V.str "signs", V.int 27, V.int 26]) = G12 at *
      refine ne_same ⟨_, dat_signs K 27 26⟩ ht3 ht2 ⟨_, rfl, iteF ?_⟩
      have e11 : ExtN G11 G12 := ((eT.trans fun b o e _ => sH b o e).trans fun b o e _ => s9 b o e).trans fun b o e _ => s911 b o e
      have tb4 : Tabs (TL A) G12 := (((tb1.ext sT).ext sH).ext s9).ext s911
      have h_lg := e11 _ _ h_lg (fun _ z => nomatch z)
      clear e11 sT sH s9 s911 tb1 eT e1 hd ht ht2 ht3 nt2 nt0 hrr nq nrr hl2
      refine ⟨tb4, fun H1 e1 tb1 t0 nt0 E1 Qn hM hC hL hF hW hB hN => ?_⟩
      have hE := told_E hM hC hL hF hW hB
      clear hM hC hL hF hW hB
      have sT : Same H1 (upd H1 t0 (.tup [])) := same_new nt0
      have h0 : upd H1 t0 (.tup []) t0 = some (.tup []) := upd_same
      generalize upd H1 t0 (.tup []) = H2 at *
      have eT : ExtN G12 H2 := e1.trans fun b o e _ => sT b o e
      refine ⟨(by show 1 ≤ sizeLine; decide), fun q nq => ⟨q, 27, _, rfl, rfl, upd_same, by decide, by decide, (by show 1 * 27 ≤ sizeLine; decide), fun rr nrr => ?_⟩⟩
      rw [show (27 : Int).toNat = 27 from rfl, rep_flat]
      have sH : Same H2 (upd (upd H2 q (.lst [V.non])) rr (.lst (List.replicate 27 V.non))) := (same_new nq).trans (same_new nrr)
      have hrr : upd (upd H2 q (.lst [V.non])) rr (.lst (List.replicate 27 V.non)) rr = some (.lst (List.replicate 27 V.non)) := upd_same
      generalize upd (upd H2 q (.lst [V.non])) rr (.lst (List.replicate 27 V.non)) = H3 at *
      have l27 : (List.replicate 27 V.non).length = 27 := List.length_replicate ..
      have o27 : ∀ x ∈ (List.replicate 27 V.non), Odd K H3 x := fun x hx => by rw [(List.mem_replicate.mp hx).2]; exact .non
      generalize (List.replicate 27 V.non) = xs4 at *
      refine code_use hE hN (sH _ _ h0) hrr o27 (g := none) rfl (fun r hd t G9 s9 ht => ?_)
      clear hE hN h0
      cases hd.uniq (.many (by rw [l27]; decide))
      rw [l27] at ht
      refine ⟨(by show 3 ≤ sizeLine; decide), fun t2 nt2 => ?_⟩
      have s911 := same_new (o := .tup [V.str "signs", V.int 27, V.int 26]) nt2
      have ht2 : upd G9 t2 (.tup [V.str "signs", V.int 27, V.int 26]) t2 = some (.tup [V.str "signs", V.int 27, V.int 26]) := upd_same
      have ht3 := s911 _ _ ht
      generalize upd G9 t2 (.tup [V.str "signs", V.int 27, V.int 26]) = G13 at *
      refine ne_same ⟨_, dat_signs K 27 26⟩ ht3 ht2 ⟨_, rfl, iteF ?_⟩
      have e11 : ExtN G12 G13 := ((eT.trans fun b o e _ => sH b o e).trans fun b o e _ => s9 b o e).trans fun b o e _ => s911 b o e
      have tb4 : Tabs (TL A) G13 := (((tb1.ext sT).ext sH).ext s9).ext s911
      have h_lg := e11 _ _ h_lg (fun _ z => nomatch z)
      clear e11 sT sH s9 s911 tb1 eT e1 hd ht ht2 ht3 nt2 nt0 hrr nq nrr
      refine ⟨tb4, fun H1 e1 tb1 t0 nt0 E1 Qn hM hC hL hF hW hB hN => ?_⟩
      have hE := told_E hM hC hL hF hW hB
      clear hM hC hL hF hW hB
      have sT : Same H1 (upd H1 t0 (.tup [])) := same_new nt0
      have h0 : upd H1 t0 (.tup []) t0 = some (.tup []) := upd_same
      generalize upd H1 t0 (.tup []) = H2 at *
      have eT : ExtN G13 H2 := e1.trans fun b o e _ => sT b o e
      refine ⟨(by show 1 ≤ sizeLine; decide), fun rr nrr => ?_⟩
      have sH : Same H2 (upd H2 rr (.lst [V.non])) := same_new nrr
      have hrr : upd H2 rr (.lst [V.non]) rr = some (.lst [V.non]) := upd_same
      generalize upd H2 rr (.lst [V.non]) = H3 at *
      have l1 : [V.non].length = 1 := rfl
      have o1 : ∀ x ∈ [V.non], Odd K H3 x := fun x hx => by simp only [List.mem_cons, List.not_mem_nil, or_false] at hx; subst hx; exact .non
      refine code_use hE hN (sH _ _ h0) hrr o1 (g := none) rfl (fun r hd t G9 s9 ht => ?_)
      clear hE hN h0
      cases hd.uniq (.many (by rw [l1]; decide))
      rw [l1] at ht
      refine ⟨(by show 3 ≤ sizeLine; decide), fun t2 nt2 => ?_⟩
      have s911 := same_new (o := .tup [V.str "signs", V.int 1, V.int 26]) nt2
      have ht2 : upd G9 t2 (.tup [V.str "signs", V.int 1, V.int 26]) t2 = some (.tup [V.str "signs", V.int 1, V.int 26]) := upd_same
      have ht3 := s911 _ _ ht
      generalize upd G9 t2 (.tup [V.str "signs", V.int 1, V.int 26]) = G14 at *
      refine ne_same ⟨_, dat_signs K 1 26⟩ ht3 ht2 ⟨_, rfl, iteF ?_⟩
      have e11 : ExtN G13 G14 := ((eT.trans fun b o e _ => sH b o e).trans fun b o e _ => s9 b o e).trans fun b o e _ => s911 b o e
      have tb4 : Tabs (TL A) G14 := (((tb1.ext sT).ext sH).ext s9).ext s911
      have h_lg := e11 _ _ h_lg (fun _ z => nomatch z)
      clear e11 sT sH s9 s911 tb1 eT e1 hd ht ht2 ht3 nt2 nt0 hrr nrr
      refine ⟨tb4, fun H1 e1 tb1 t0 nt0 E1 Qn hM hC hL hF hW hB hN => ?_⟩
      have hE := told_E hM hC hL hF hW hB
      clear hM hC hL hF hW hB
      have sT : Same H1 (upd H1 t0 (.tup [])) := same_new nt0
      have h0 : upd H1 t0 (.tup []) t0 = some (.tup []) := upd_same
      generalize upd H1 t0 (.tup []) = H2 at *
      have eT : ExtN G14 H2 := e1.trans fun b o e _ => sT b o e
      refine ⟨(by show 1 ≤ sizeLine; decide), fun rr nrr => ?_⟩
      have sH : Same H2 (upd H2 rr (.lst [V.int 1])) := same_new nrr
      have hrr : upd H2 rr (.lst [V.int 1]) rr = some (.lst [V.int 1]) := upd_same
      generalize upd H2 rr (.lst [V.int 1]) = H3 at *
      have l1 : [V.int 1].length = 1 := rfl
      have o1 : ∀ x ∈ [V.int 1], Odd K H3 x := fun x hx => by simp only [List.mem_cons, List.not_mem_nil, or_false] at hx; subst hx; exact .int 1
      generalize [V.int 1] = xs5 at *
      refine code_use hE hN (sH _ _ h0) hrr o1 (g := none) rfl (fun r hd t G9 s9 ht => ?_)
      clear hE hN h0
      cases hd.uniq (.many (by rw [l1]; decide))
      rw [l1] at ht
      refine ⟨(by show 3 ≤ sizeLine; decide), fun t2 nt2 => ?_⟩
      have s911 := same_new (o := .tup [V.str "signs", V.int 1, V.int 26]) nt2
      have ht2 : upd G9 t2 (.tup [V.str "signs", V.int 1, V.int 26]) t2 = some (.tup [V.str "signs", V.int 1, V.int 26]) := upd_same
      have ht3 := s911 _ _ ht
      generalize upd G9 t2 (.tup [V.str "signs", V.int 1, V.int 26]) = G15 at *
      exact eq_same ⟨_, dat_signs K 1 26⟩ ht3 ht2 (kq _)
end
end Z

set_option Elab.async false
set_option linter.all false
set_option maxRecDepth 100000
set_option maxHeartbeats 8000000
/-! what the top has written, gathered -/
namespace Z
open PySem L2 XV KR LamX PyProof.Rows
/-- of a class of the errors: all that is asked of it but its object and its __init__'s -/
def errB (K : PySem.W.Frag) (C fI : Addr) (fs : List Str) : Bool :=
  PySem.W.findIn K (.ref C) "__setattr__" == some (some (.builtin "object.__setattr__")) && PySem.W.subIn K (.ref C) (.type "BaseException") == some true && PySem.W.typeIn K (.ref C) == some (.type "type") && PySem.W.keepIn K (.ref C) &&
  PySem.W.findIn K (.ref C) "__init__" == some (some (.ref fI)) && PySem.W.typeIn K (.ref fI) == some (.type "function") && PySem.W.findIn K (.ref C) "__getattribute__" == some (some (.builtin "BaseException.__getattribute__")) &&
  PySem.W.findIn K (.ref C) "__getattr__" == some none && PySem.W.hasDictIn K C && PySem.W.findIn K (.ref C) "__class__" == some (some (.builtin "object.__class__")) &&
  PySem.W.specialIn K (.builtin "object.__class__") "__get__" == some (some (.builtin "getset_descriptor.__get__")) && PySem.W.takesIn K (.builtin "object.__class__") == some true && PySem.W.mroIn K C (.type "object") == some true &&
  fs.all fun f => PySem.W.findIn K (.ref C) f == some none
theorem ec_mk {K : PySem.W.Frag} {mg : Str → Option Value} {h : Heap} (X : K.In h) (G : h.Ns mainGlobals mg) {cj C fI N : Addr} {x qual nm q : Str} {st : Stmt} {fs : List Str} {bs : List Value} {sn : List Str} {sub : List Value} {ab : Bool} {col : Option Bool} {dd : Option Addr} {m0 m1 m2 m3 m5 : Option Value}
    {oc kV doc pm cd ct : Value} {od an : Option Addr} {sl : Array (Option Value)}
    (aC : PySem.W.nsIn K mainGlobals x = some (some (.ref C)))
    (xL : K.lookup C = some (excClassObj nm q C N bs [.ref cj, .type "ValueError", .type "Exception", .type "BaseException", .type "object"] true sn sub ab col dd m0 m1 m2 m3 m5 "ValueError.__new__"))
    (eB : errB K C fI fs = true)
    (lI : K.lookup fI = some ⟨oc, od, .func (PySem.W.fnOf "__init__" qual (defArgs st) (defBody st) (defScope st) .none kV doc pm an cd ct), sl⟩) (cI : PySem.W.codeIn K cd qual = true) (kI : PySem.W.keepIn K (.ref fI) = true)
    (hb : KBn K (PySem.W.fnOf "__init__" qual (defArgs st) (defBody st) (defScope st) .none kV doc pm an cd ct) ("self" :: fs) (fs.length + 1) [] (fun us _ => us) (fun vs _ => vs))
    (hk : Binds K (PySem.W.fnOf "__init__" qual (defArgs st) (defBody st) (defScope st) .none kV doc pm an cd ct) ("self" :: fs) []) :
    Ec K mg cj C fI x qual st (PySem.W.fnOf "__init__" qual (defArgs st) (defBody st) (defScope st) .none kV doc pm an cd ct) fs := by
  unfold errB at eB
  simp only [Bool.and_eq_true, beq_iff_eq, List.all_eq_true] at eB
  obtain ⟨⟨⟨⟨⟨⟨⟨⟨⟨⟨⟨⟨⟨e1, e2⟩, e3⟩, e4⟩, e5⟩, e6⟩, e7⟩, e8⟩, e9⟩, e10⟩, e11⟩, e12⟩, e13⟩, e14⟩ := eB
  exact { E := ⟨⟨⟨nm, q, N, bs, _, sn, sub, ab, col, dd, m0, m1, m2, m3, m5, xL, by rfl⟩, e1, e2, e3, e4⟩, e5, e6⟩, R := ⟨e7, e8, e2, e9, e10, e11, e12, e13⟩, F := fun_mk lI cI kI, g := PySem.W.mg_of X G aC,
          m := ⟨_, by unfold PySem.W.clsIn; rw [xL] <;> rfl, rfl⟩, ty := e3, b := hb, bb := hk, no := e14 }
/-- of the class Code, and of the class Ratio -/
def codeB (K : PySem.W.Frag) (C fI : Addr) : Bool :=
  PySem.W.makesIn K C && PySem.W.findIn K (.ref C) "__init__" == some (some (.ref fI)) && PySem.W.isFn K (.ref fI) && PySem.W.keepIn K (.ref C) &&
  PySem.W.plainGet K C Str.empty && PySem.W.hasDictIn K C && PySem.W.plainOver K C && PySem.W.findIn K (.ref C) "__setattr__" == some (some (.builtin "object.__setattr__")) &&
  PySem.W.findIn K (.ref C) "lengths" == some none && PySem.W.findIn K (.ref C) "words" == some none && PySem.W.findIn K (.ref C) "size" == some none && PySem.W.findIn K (.ref C) "longest" == some none
theorem cc_mk {K : PySem.W.Frag} {C fI : Addr} (e : codeB K C fI = true) : Cc K C fI := by
  unfold codeB at e
  simp only [Bool.and_eq_true, beq_iff_eq] at e
  obtain ⟨⟨⟨⟨⟨⟨⟨⟨⟨⟨⟨e1, e2⟩, e3⟩, e4⟩, e5⟩, e6⟩, e7⟩, e8⟩, e9⟩, e10⟩, e11⟩, e12⟩ := e
  exact { M := ⟨e1, e2, e3, e4⟩, cl := ⟨e5, e6, e7, e8⟩, n_lengths := e9, n_words := e10, n_size := e11, n_longest := e12 }
def ratioB (K : PySem.W.Frag) (C fI : Addr) : Bool :=
  PySem.W.makesIn K C && PySem.W.findIn K (.ref C) "__init__" == some (some (.ref fI)) && PySem.W.isFn K (.ref fI) && PySem.W.keepIn K (.ref C) &&
  PySem.W.plainGet K C Str.empty && PySem.W.hasDictIn K C && PySem.W.plainOver K C && PySem.W.findIn K (.ref C) "__setattr__" == some (some (.builtin "object.__setattr__")) &&
  PySem.W.findIn K (.ref C) "number" == some none && PySem.W.findIn K (.ref C) "over" == some none
theorem rc_mk {K : PySem.W.Frag} {C fI : Addr} (e : ratioB K C fI = true) : Rc K C fI := by
  unfold ratioB at e
  simp only [Bool.and_eq_true, beq_iff_eq] at e
  obtain ⟨⟨⟨⟨⟨⟨⟨⟨⟨e1, e2⟩, e3⟩, e4⟩, e5⟩, e6⟩, e7⟩, e8⟩, e9⟩, e10⟩ := e
  exact { M := ⟨e1, e2, e3, e4⟩, cl := ⟨e5, e6, e7, e8⟩, n_number := e9, n_over := e10 }
def icB (K : PySem.W.Frag) (C : Addr) : Bool :=
  PySem.W.plainGet K C Str.empty && PySem.W.hasDictIn K C && PySem.W.plainOver K C && PySem.W.findIn K (.ref C) "__setattr__" == some (some (.builtin "object.__setattr__")) &&
  PySem.W.findIn K (.ref C) "__class__" == some (some (.builtin "object.__class__")) && PySem.W.specialIn K (.builtin "object.__class__") "__get__" == some (some (.builtin "getset_descriptor.__get__")) &&
  PySem.W.takesIn K (.builtin "object.__class__") == some true && PySem.W.mroIn K C (.type "object") == some true &&
  PySem.W.kitOne K (.ref C) (.type "int") == some false && PySem.W.kitOne K (.ref C) (.type "str") == some false
theorem ic_mk {K : PySem.W.Frag} {C : Addr} (e : icB K C = true) : Ic K C := by
  unfold icB at e
  simp only [Bool.and_eq_true, beq_iff_eq] at e
  obtain ⟨⟨⟨⟨⟨⟨⟨⟨⟨e1, e2⟩, e3⟩, e4⟩, e5⟩, e6⟩, e7⟩, e8⟩, e9⟩, e10⟩ := e
  exact { cl := ⟨e1, e2, e3, e4⟩, ha := e5, hn := e6, ht := e7, hm := e8, ki := e9, ks := e10 }

section
variable {l : PySem.W.OpenLaw} {q : Program} {w : World} {K : PySem.W.Frag} {mg : Str → Option Value} {h : Heap} {fa : Addr}
theorem all_mk (TF : TabFact q K h) (X : K.In h) (G : h.Ns mainGlobals mg) (hfa : mg "law" = some (.ref fa))
    {cj : Addr}
    {f_isint : Addr} {oc_isint kV_isint doc_isint pm_isint cd_isint ct_isint : Value} {od_isint an_isint : Option Addr} {sl_isint : Array (Option Value)}
    {f_kept : Addr} {oc_kept kV_kept doc_kept pm_kept cd_kept ct_kept : Value} {od_kept an_kept : Option Addr} {sl_kept : Array (Option Value)}
    {f_checkmany : Addr} {oc_checkmany kV_checkmany doc_checkmany pm_checkmany cd_checkmany ct_checkmany : Value} {od_checkmany an_checkmany : Option Addr} {sl_checkmany : Array (Option Value)}
    {f_checkcounts : Addr} {oc_checkcounts kV_checkcounts doc_checkcounts pm_checkcounts cd_checkcounts ct_checkcounts : Value} {od_checkcounts an_checkcounts : Option Addr} {sl_checkcounts : Array (Option Value)}
    {f_lens : Addr} {oc_lens kV_lens doc_lens pm_lens cd_lens ct_lens : Value} {od_lens an_lens : Option Addr} {sl_lens : Array (Option Value)}
    {f_isword : Addr} {oc_isword kV_isword doc_isword pm_isword cd_isword ct_isword : Value} {od_isword an_isword : Option Addr} {sl_isword : Array (Option Value)}
    {f_cwords : Addr} {oc_cwords kV_cwords doc_cwords pm_cwords cd_cwords ct_cwords : Value} {od_cwords an_cwords : Option Addr} {sl_cwords : Array (Option Value)}
    {f_canon : Addr} {oc_canon kV_canon doc_canon pm_canon cd_canon ct_canon : Value} {od_canon an_canon : Option Addr} {sl_canon : Array (Option Value)}
    {f_penof : Addr} {oc_penof kV_penof doc_penof pm_penof cd_penof ct_penof : Value} {od_penof an_penof : Option Addr} {sl_penof : Array (Option Value)}
    {f_draw : Addr} {oc_draw kV_draw doc_draw pm_draw cd_draw ct_draw : Value} {od_draw an_draw : Option Addr} {sl_draw : Array (Option Value)}
    {f_pick : Addr} {oc_pick kV_pick doc_pick pm_pick cd_pick ct_pick : Value} {od_pick an_pick : Option Addr} {sl_pick : Array (Option Value)}
    {f_countsof : Addr} {oc_countsof kV_countsof doc_countsof pm_countsof cd_countsof ct_countsof : Value} {od_countsof an_countsof : Option Addr} {sl_countsof : Array (Option Value)}
    {f_lof : Addr} {oc_lof kV_lof doc_lof pm_lof cd_lof ct_lof : Value} {od_lof an_lof : Option Addr} {sl_lof : Array (Option Value)}
    {f_two : Addr} {oc_two kV_two doc_two pm_two cd_two ct_two : Value} {od_two an_two : Option Addr} {sl_two : Array (Option Value)}
    {f_words : Addr} {oc_words kV_words doc_words pm_words cd_words ct_words : Value} {od_words an_words : Option Addr} {sl_words : Array (Option Value)}
    {f_refusal : Addr} {oc_refusal kV_refusal doc_refusal pm_refusal cd_refusal ct_refusal : Value} {od_refusal an_refusal : Option Addr} {sl_refusal : Array (Option Value)}
    {f_iswhole : Addr} {oc_iswhole kV_iswhole doc_iswhole pm_iswhole cd_iswhole ct_iswhole : Value} {od_iswhole an_iswhole : Option Addr} {sl_iswhole : Array (Option Value)}
    {f_countsdue : Addr} {oc_countsdue kV_countsdue doc_countsdue pm_countsdue cd_countsdue ct_countsdue : Value} {od_countsdue an_countsdue : Option Addr} {sl_countsdue : Array (Option Value)}
    {f_codedue : Addr} {oc_codedue kV_codedue doc_codedue pm_codedue cd_codedue ct_codedue : Value} {od_codedue an_codedue : Option Addr} {sl_codedue : Array (Option Value)}
    {f_spoilt : Addr} {oc_spoilt kV_spoilt doc_spoilt pm_spoilt cd_spoilt ct_spoilt : Value} {od_spoilt an_spoilt : Option Addr} {sl_spoilt : Array (Option Value)}
    {f_law : Addr} {oc_law kV_law doc_law pm_law ct_law : Value} {od_law an_law : Option Addr} {sl_law : Array (Option Value)} {C_law P_law : Addr}
    {e1_law : Value} {e2_law : Option Addr} {e3_law : Array Value} {e4_law : Array (Option Value)}
    {C_TooMany I_TooMany N_TooMany : Addr} {nm_TooMany q_TooMany : Str} {bs_TooMany : List Value} {sn_TooMany : List Str} {sub_TooMany : List Value} {ab_TooMany : Bool} {col_TooMany : Option Bool} {dd_TooMany : Option Addr} {m0_TooMany m1_TooMany m2_TooMany m3_TooMany m5_TooMany : Option Value} {oc_TooMany kV_TooMany doc_TooMany pm_TooMany cd_TooMany ct_TooMany : Value} {od_TooMany an_TooMany : Option Addr} {sl_TooMany : Array (Option Value)}
    {C_BadCount I_BadCount N_BadCount : Addr} {nm_BadCount q_BadCount : Str} {bs_BadCount : List Value} {sn_BadCount : List Str} {sub_BadCount : List Value} {ab_BadCount : Bool} {col_BadCount : Option Bool} {dd_BadCount : Option Addr} {m0_BadCount m1_BadCount m2_BadCount m3_BadCount m5_BadCount : Option Value} {oc_BadCount kV_BadCount doc_BadCount pm_BadCount cd_BadCount ct_BadCount : Value} {od_BadCount an_BadCount : Option Addr} {sl_BadCount : Array (Option Value)}
    {C_BadLength I_BadLength N_BadLength : Addr} {nm_BadLength q_BadLength : Str} {bs_BadLength : List Value} {sn_BadLength : List Str} {sub_BadLength : List Value} {ab_BadLength : Bool} {col_BadLength : Option Bool} {dd_BadLength : Option Addr} {m0_BadLength m1_BadLength m2_BadLength m3_BadLength m5_BadLength : Option Value} {oc_BadLength kV_BadLength doc_BadLength pm_BadLength cd_BadLength ct_BadLength : Value} {od_BadLength an_BadLength : Option Addr} {sl_BadLength : Array (Option Value)}
    {C_NotFull I_NotFull N_NotFull : Addr} {nm_NotFull q_NotFull : Str} {bs_NotFull : List Value} {sn_NotFull : List Str} {sub_NotFull : List Value} {ab_NotFull : Bool} {col_NotFull : Option Bool} {dd_NotFull : Option Addr} {m0_NotFull m1_NotFull m2_NotFull m3_NotFull m5_NotFull : Option Value} {oc_NotFull kV_NotFull doc_NotFull pm_NotFull cd_NotFull ct_NotFull : Value} {od_NotFull an_NotFull : Option Addr} {sl_NotFull : Array (Option Value)}
    {C_BadWord I_BadWord N_BadWord : Addr} {nm_BadWord q_BadWord : Str} {bs_BadWord : List Value} {sn_BadWord : List Str} {sub_BadWord : List Value} {ab_BadWord : Bool} {col_BadWord : Option Bool} {dd_BadWord : Option Addr} {m0_BadWord m1_BadWord m2_BadWord m3_BadWord m5_BadWord : Option Value} {oc_BadWord kV_BadWord doc_BadWord pm_BadWord cd_BadWord ct_BadWord : Value} {od_BadWord an_BadWord : Option Addr} {sl_BadWord : Array (Option Value)}
    {C_Begins I_Begins N_Begins : Addr} {nm_Begins q_Begins : Str} {bs_Begins : List Value} {sn_Begins : List Str} {sub_Begins : List Value} {ab_Begins : Bool} {col_Begins : Option Bool} {dd_Begins : Option Addr} {m0_Begins m1_Begins m2_Begins m3_Begins m5_Begins : Option Value} {oc_Begins kV_Begins doc_Begins pm_Begins cd_Begins ct_Begins : Value} {od_Begins an_Begins : Option Addr} {sl_Begins : Array (Option Value)}
    {C_BadOver I_BadOver N_BadOver : Addr} {nm_BadOver q_BadOver : Str} {bs_BadOver : List Value} {sn_BadOver : List Str} {sub_BadOver : List Value} {ab_BadOver : Bool} {col_BadOver : Option Bool} {dd_BadOver : Option Addr} {m0_BadOver m1_BadOver m2_BadOver m3_BadOver m5_BadOver : Option Value} {oc_BadOver kV_BadOver doc_BadOver pm_BadOver cd_BadOver ct_BadOver : Value} {od_BadOver an_BadOver : Option Addr} {sl_BadOver : Array (Option Value)}
    {CC : Addr} {f_init : Addr}
    {T0 : Addr} {ot : Value} {odt : Option Addr} {nT : Nat} {slt : Array (Option Value)}
    {oc_init kV_init doc_init pm_init cd_init ct_init : Value} {od_init an_init : Option Addr} {sl_init : Array (Option Value)}
    {CR : Addr} {f_rinit : Addr}
    {T1 : Addr} {ot1 : Value} {odt1 : Option Addr} {tkT : Tok} {nT1 : Nat} {slt1 : Array (Option Value)}
    {oc_rinit kV_rinit doc_rinit pm_rinit cd_rinit ct_rinit : Value} {od_rinit an_rinit : Option Addr} {sl_rinit : Array (Option Value)}
    {tk_FEWEST_SIGNS : Tok}
    {tk_MOST_SIGNS : Tok}
    {tk_LONGEST_WORD : Tok}
    (a_isint : PySem.W.nsIn K mainGlobals "is_int" = some (some (.ref f_isint)))
    (l_isint : K.lookup f_isint = some ⟨oc_isint, od_isint, .func (PySem.W.fnOf "is_int" "is_int" (defArgs s_isint) (defBody s_isint) (defScope s_isint) .none kV_isint doc_isint pm_isint an_isint cd_isint ct_isint), sl_isint⟩)
    (c_isint : PySem.W.codeIn K cd_isint "is_int" = true)
    (k_isint : PySem.W.keepIn K (.ref f_isint) = true)
    (a_kept : PySem.W.nsIn K mainGlobals "kept" = some (some (.ref f_kept)))
    (l_kept : K.lookup f_kept = some ⟨oc_kept, od_kept, .func (PySem.W.fnOf "kept" "kept" (defArgs s_kept) (defBody s_kept) (defScope s_kept) .none kV_kept doc_kept pm_kept an_kept cd_kept ct_kept), sl_kept⟩)
    (c_kept : PySem.W.codeIn K cd_kept "kept" = true)
    (k_kept : PySem.W.keepIn K (.ref f_kept) = true)
    (a_checkmany : PySem.W.nsIn K mainGlobals "check_many" = some (some (.ref f_checkmany)))
    (l_checkmany : K.lookup f_checkmany = some ⟨oc_checkmany, od_checkmany, .func (PySem.W.fnOf "check_many" "check_many" (defArgs s_checkmany) (defBody s_checkmany) (defScope s_checkmany) .none kV_checkmany doc_checkmany pm_checkmany an_checkmany cd_checkmany ct_checkmany), sl_checkmany⟩)
    (c_checkmany : PySem.W.codeIn K cd_checkmany "check_many" = true)
    (k_checkmany : PySem.W.keepIn K (.ref f_checkmany) = true)
    (a_checkcounts : PySem.W.nsIn K mainGlobals "check_counts" = some (some (.ref f_checkcounts)))
    (l_checkcounts : K.lookup f_checkcounts = some ⟨oc_checkcounts, od_checkcounts, .func (PySem.W.fnOf "check_counts" "check_counts" (defArgs s_checkcounts) (defBody s_checkcounts) (defScope s_checkcounts) .none kV_checkcounts doc_checkcounts pm_checkcounts an_checkcounts cd_checkcounts ct_checkcounts), sl_checkcounts⟩)
    (c_checkcounts : PySem.W.codeIn K cd_checkcounts "check_counts" = true)
    (k_checkcounts : PySem.W.keepIn K (.ref f_checkcounts) = true)
    (a_lens : PySem.W.nsIn K mainGlobals "check_lengths" = some (some (.ref f_lens)))
    (l_lens : K.lookup f_lens = some ⟨oc_lens, od_lens, .func (PySem.W.fnOf "check_lengths" "check_lengths" (defArgs s_lens) (defBody s_lens) (defScope s_lens) .none kV_lens doc_lens pm_lens an_lens cd_lens ct_lens), sl_lens⟩)
    (c_lens : PySem.W.codeIn K cd_lens "check_lengths" = true)
    (k_lens : PySem.W.keepIn K (.ref f_lens) = true)
    (a_isword : PySem.W.nsIn K mainGlobals "is_word" = some (some (.ref f_isword)))
    (l_isword : K.lookup f_isword = some ⟨oc_isword, od_isword, .func (PySem.W.fnOf "is_word" "is_word" (defArgs s_isword) (defBody s_isword) (defScope s_isword) .none kV_isword doc_isword pm_isword an_isword cd_isword ct_isword), sl_isword⟩)
    (c_isword : PySem.W.codeIn K cd_isword "is_word" = true)
    (k_isword : PySem.W.keepIn K (.ref f_isword) = true)
    (a_cwords : PySem.W.nsIn K mainGlobals "check_words" = some (some (.ref f_cwords)))
    (l_cwords : K.lookup f_cwords = some ⟨oc_cwords, od_cwords, .func (PySem.W.fnOf "check_words" "check_words" (defArgs s_cwords) (defBody s_cwords) (defScope s_cwords) .none kV_cwords doc_cwords pm_cwords an_cwords cd_cwords ct_cwords), sl_cwords⟩)
    (c_cwords : PySem.W.codeIn K cd_cwords "check_words" = true)
    (k_cwords : PySem.W.keepIn K (.ref f_cwords) = true)
    (a_canon : PySem.W.nsIn K mainGlobals "canonical_words" = some (some (.ref f_canon)))
    (l_canon : K.lookup f_canon = some ⟨oc_canon, od_canon, .func (PySem.W.fnOf "canonical_words" "canonical_words" (defArgs s_canon) (defBody s_canon) (defScope s_canon) .none kV_canon doc_canon pm_canon an_canon cd_canon ct_canon), sl_canon⟩)
    (c_canon : PySem.W.codeIn K cd_canon "canonical_words" = true)
    (k_canon : PySem.W.keepIn K (.ref f_canon) = true)
    (a_penof : PySem.W.nsIn K mainGlobals "_law_pen_of" = some (some (.ref f_penof)))
    (l_penof : K.lookup f_penof = some ⟨oc_penof, od_penof, .func (PySem.W.fnOf "_law_pen_of" "_law_pen_of" (defArgs s_penof) (defBody s_penof) (defScope s_penof) .none kV_penof doc_penof pm_penof an_penof cd_penof ct_penof), sl_penof⟩)
    (c_penof : PySem.W.codeIn K cd_penof "_law_pen_of" = true)
    (k_penof : PySem.W.keepIn K (.ref f_penof) = true)
    (a_draw : PySem.W.nsIn K mainGlobals "_law_draw" = some (some (.ref f_draw)))
    (l_draw : K.lookup f_draw = some ⟨oc_draw, od_draw, .func (PySem.W.fnOf "_law_draw" "_law_draw" (defArgs s_draw) (defBody s_draw) (defScope s_draw) .none kV_draw doc_draw pm_draw an_draw cd_draw ct_draw), sl_draw⟩)
    (c_draw : PySem.W.codeIn K cd_draw "_law_draw" = true)
    (k_draw : PySem.W.keepIn K (.ref f_draw) = true)
    (a_pick : PySem.W.nsIn K mainGlobals "_law_pick" = some (some (.ref f_pick)))
    (l_pick : K.lookup f_pick = some ⟨oc_pick, od_pick, .func (PySem.W.fnOf "_law_pick" "_law_pick" (defArgs s_pick) (defBody s_pick) (defScope s_pick) .none kV_pick doc_pick pm_pick an_pick cd_pick ct_pick), sl_pick⟩)
    (c_pick : PySem.W.codeIn K cd_pick "_law_pick" = true)
    (k_pick : PySem.W.keepIn K (.ref f_pick) = true)
    (a_countsof : PySem.W.nsIn K mainGlobals "_law_counts_of" = some (some (.ref f_countsof)))
    (l_countsof : K.lookup f_countsof = some ⟨oc_countsof, od_countsof, .func (PySem.W.fnOf "_law_counts_of" "_law_counts_of" (defArgs s_countsof) (defBody s_countsof) (defScope s_countsof) .none kV_countsof doc_countsof pm_countsof an_countsof cd_countsof ct_countsof), sl_countsof⟩)
    (c_countsof : PySem.W.codeIn K cd_countsof "_law_counts_of" = true)
    (k_countsof : PySem.W.keepIn K (.ref f_countsof) = true)
    (a_lof : PySem.W.nsIn K mainGlobals "_law_lengths_of" = some (some (.ref f_lof)))
    (l_lof : K.lookup f_lof = some ⟨oc_lof, od_lof, .func (PySem.W.fnOf "_law_lengths_of" "_law_lengths_of" (defArgs s_lof) (defBody s_lof) (defScope s_lof) .none kV_lof doc_lof pm_lof an_lof cd_lof ct_lof), sl_lof⟩)
    (c_lof : PySem.W.codeIn K cd_lof "_law_lengths_of" = true)
    (k_lof : PySem.W.keepIn K (.ref f_lof) = true)
    (a_two : PySem.W.nsIn K mainGlobals "_law_two_to" = some (some (.ref f_two)))
    (l_two : K.lookup f_two = some ⟨oc_two, od_two, .func (PySem.W.fnOf "_law_two_to" "_law_two_to" (defArgs s_two) (defBody s_two) (defScope s_two) .none kV_two doc_two pm_two an_two cd_two ct_two), sl_two⟩)
    (c_two : PySem.W.codeIn K cd_two "_law_two_to" = true)
    (k_two : PySem.W.keepIn K (.ref f_two) = true)
    (a_words : PySem.W.nsIn K mainGlobals "_law_words" = some (some (.ref f_words)))
    (l_words : K.lookup f_words = some ⟨oc_words, od_words, .func (PySem.W.fnOf "_law_words" "_law_words" (defArgs s_words) (defBody s_words) (defScope s_words) .none kV_words doc_words pm_words an_words cd_words ct_words), sl_words⟩)
    (c_words : PySem.W.codeIn K cd_words "_law_words" = true)
    (k_words : PySem.W.keepIn K (.ref f_words) = true)
    (a_refusal : PySem.W.nsIn K mainGlobals "_law_refusal" = some (some (.ref f_refusal)))
    (l_refusal : K.lookup f_refusal = some ⟨oc_refusal, od_refusal, .func (PySem.W.fnOf "_law_refusal" "_law_refusal" (defArgs s_refusal) (defBody s_refusal) (defScope s_refusal) .none kV_refusal doc_refusal pm_refusal an_refusal cd_refusal ct_refusal), sl_refusal⟩)
    (c_refusal : PySem.W.codeIn K cd_refusal "_law_refusal" = true)
    (k_refusal : PySem.W.keepIn K (.ref f_refusal) = true)
    (a_iswhole : PySem.W.nsIn K mainGlobals "_law_is_whole" = some (some (.ref f_iswhole)))
    (l_iswhole : K.lookup f_iswhole = some ⟨oc_iswhole, od_iswhole, .func (PySem.W.fnOf "_law_is_whole" "_law_is_whole" (defArgs s_iswhole) (defBody s_iswhole) (defScope s_iswhole) .none kV_iswhole doc_iswhole pm_iswhole an_iswhole cd_iswhole ct_iswhole), sl_iswhole⟩)
    (c_iswhole : PySem.W.codeIn K cd_iswhole "_law_is_whole" = true)
    (k_iswhole : PySem.W.keepIn K (.ref f_iswhole) = true)
    (a_countsdue : PySem.W.nsIn K mainGlobals "_law_counts_due" = some (some (.ref f_countsdue)))
    (l_countsdue : K.lookup f_countsdue = some ⟨oc_countsdue, od_countsdue, .func (PySem.W.fnOf "_law_counts_due" "_law_counts_due" (defArgs s_countsdue) (defBody s_countsdue) (defScope s_countsdue) .none kV_countsdue doc_countsdue pm_countsdue an_countsdue cd_countsdue ct_countsdue), sl_countsdue⟩)
    (c_countsdue : PySem.W.codeIn K cd_countsdue "_law_counts_due" = true)
    (k_countsdue : PySem.W.keepIn K (.ref f_countsdue) = true)
    (a_codedue : PySem.W.nsIn K mainGlobals "_law_code_due" = some (some (.ref f_codedue)))
    (l_codedue : K.lookup f_codedue = some ⟨oc_codedue, od_codedue, .func (PySem.W.fnOf "_law_code_due" "_law_code_due" (defArgs s_codedue) (defBody s_codedue) (defScope s_codedue) .none kV_codedue doc_codedue pm_codedue an_codedue cd_codedue ct_codedue), sl_codedue⟩)
    (c_codedue : PySem.W.codeIn K cd_codedue "_law_code_due" = true)
    (k_codedue : PySem.W.keepIn K (.ref f_codedue) = true)
    (a_spoilt : PySem.W.nsIn K mainGlobals "_law_spoilt" = some (some (.ref f_spoilt)))
    (l_spoilt : K.lookup f_spoilt = some ⟨oc_spoilt, od_spoilt, .func (PySem.W.fnOf "_law_spoilt" "_law_spoilt" (defArgs s_spoilt) (defBody s_spoilt) (defScope s_spoilt) .none kV_spoilt doc_spoilt pm_spoilt an_spoilt cd_spoilt ct_spoilt), sl_spoilt⟩)
    (c_spoilt : PySem.W.codeIn K cd_spoilt "_law_spoilt" = true)
    (k_spoilt : PySem.W.keepIn K (.ref f_spoilt) = true)
    (a_law : PySem.W.nsIn K mainGlobals "law" = some (some (.ref f_law)))
    (l_law : K.lookup f_law = some ⟨oc_law, od_law, .func (PySem.W.fnOf "law" "law" (defArgs s_law) (defBody s_law) (defScope s_law) .none kV_law doc_law pm_law an_law (.ref C_law) ct_law), sl_law⟩)
    (c_law : PySem.W.codeIn K (.ref C_law) "law" = true)
    (k_law : PySem.W.keepIn K (.ref f_law) = true)
    (e_law : K.lookup C_law = some ⟨e1_law, e2_law, .fields e3_law, e4_law⟩)
    (v_law : e3_law[11]? = some (.ref P_law))
    (r_law : ((recsOf q).find? fun r => r.name == ("law" : Str)).isSome = true)
    (n_law : K.lookup P_law = none)
    (aJ : PySem.W.nsIn K mainGlobals "JoinsError" = some (some (.ref cj)))
    (rJ : PySem.W.readsIn K cj (.type "type") = true)
    (sJ : PySem.W.specialIn K (.ref cj) "__getattribute__" = some (some (.builtin "type.__getattribute__")))
    (vJ : PySem.W.findCls K (.ref cj) (.type "type") "__init__" = some (.val (.builtin "ValueError.__init__")))
    (iJ : PySem.W.isClsIn K cj = true)
    (tJ : PySem.W.typeIn K (.ref cj) = some (.type "type"))
    (aC_TooMany : PySem.W.nsIn K mainGlobals "TooMany" = some (some (.ref C_TooMany)))
    (xL_TooMany : K.lookup C_TooMany = some (excClassObj nm_TooMany q_TooMany C_TooMany N_TooMany bs_TooMany [.ref cj, .type "ValueError", .type "Exception", .type "BaseException", .type "object"] true sn_TooMany sub_TooMany ab_TooMany col_TooMany dd_TooMany m0_TooMany m1_TooMany m2_TooMany m3_TooMany m5_TooMany "ValueError.__new__"))
    (iI_TooMany : PySem.W.findIn K (.ref C_TooMany) "__init__" = some (some (.ref I_TooMany)))
    (eB_TooMany : errB K C_TooMany I_TooMany ["what", "many", "most"] = true)
    (lI_TooMany : K.lookup I_TooMany = some ⟨oc_TooMany, od_TooMany, .func (PySem.W.fnOf "__init__" "TooMany.__init__" (defArgs s_TooMany) (defBody s_TooMany) (defScope s_TooMany) .none kV_TooMany doc_TooMany pm_TooMany an_TooMany cd_TooMany ct_TooMany), sl_TooMany⟩)
    (cI_TooMany : PySem.W.codeIn K cd_TooMany "TooMany.__init__" = true)
    (kI_TooMany : PySem.W.keepIn K (.ref I_TooMany) = true)
    (aC_BadCount : PySem.W.nsIn K mainGlobals "BadCount" = some (some (.ref C_BadCount)))
    (xL_BadCount : K.lookup C_BadCount = some (excClassObj nm_BadCount q_BadCount C_BadCount N_BadCount bs_BadCount [.ref cj, .type "ValueError", .type "Exception", .type "BaseException", .type "object"] true sn_BadCount sub_BadCount ab_BadCount col_BadCount dd_BadCount m0_BadCount m1_BadCount m2_BadCount m3_BadCount m5_BadCount "ValueError.__new__"))
    (iI_BadCount : PySem.W.findIn K (.ref C_BadCount) "__init__" = some (some (.ref I_BadCount)))
    (eB_BadCount : errB K C_BadCount I_BadCount ["index"] = true)
    (lI_BadCount : K.lookup I_BadCount = some ⟨oc_BadCount, od_BadCount, .func (PySem.W.fnOf "__init__" "BadCount.__init__" (defArgs s_BadCount) (defBody s_BadCount) (defScope s_BadCount) .none kV_BadCount doc_BadCount pm_BadCount an_BadCount cd_BadCount ct_BadCount), sl_BadCount⟩)
    (cI_BadCount : PySem.W.codeIn K cd_BadCount "BadCount.__init__" = true)
    (kI_BadCount : PySem.W.keepIn K (.ref I_BadCount) = true)
    (aC_BadLength : PySem.W.nsIn K mainGlobals "BadLength" = some (some (.ref C_BadLength)))
    (xL_BadLength : K.lookup C_BadLength = some (excClassObj nm_BadLength q_BadLength C_BadLength N_BadLength bs_BadLength [.ref cj, .type "ValueError", .type "Exception", .type "BaseException", .type "object"] true sn_BadLength sub_BadLength ab_BadLength col_BadLength dd_BadLength m0_BadLength m1_BadLength m2_BadLength m3_BadLength m5_BadLength "ValueError.__new__"))
    (iI_BadLength : PySem.W.findIn K (.ref C_BadLength) "__init__" = some (some (.ref I_BadLength)))
    (eB_BadLength : errB K C_BadLength I_BadLength ["index"] = true)
    (lI_BadLength : K.lookup I_BadLength = some ⟨oc_BadLength, od_BadLength, .func (PySem.W.fnOf "__init__" "BadLength.__init__" (defArgs s_BadLength) (defBody s_BadLength) (defScope s_BadLength) .none kV_BadLength doc_BadLength pm_BadLength an_BadLength cd_BadLength ct_BadLength), sl_BadLength⟩)
    (cI_BadLength : PySem.W.codeIn K cd_BadLength "BadLength.__init__" = true)
    (kI_BadLength : PySem.W.keepIn K (.ref I_BadLength) = true)
    (aC_NotFull : PySem.W.nsIn K mainGlobals "NotFull" = some (some (.ref C_NotFull)))
    (xL_NotFull : K.lookup C_NotFull = some (excClassObj nm_NotFull q_NotFull C_NotFull N_NotFull bs_NotFull [.ref cj, .type "ValueError", .type "Exception", .type "BaseException", .type "object"] true sn_NotFull sub_NotFull ab_NotFull col_NotFull dd_NotFull m0_NotFull m1_NotFull m2_NotFull m3_NotFull m5_NotFull "ValueError.__new__"))
    (iI_NotFull : PySem.W.findIn K (.ref C_NotFull) "__init__" = some (some (.ref I_NotFull)))
    (eB_NotFull : errB K C_NotFull I_NotFull [] = true)
    (lI_NotFull : K.lookup I_NotFull = some ⟨oc_NotFull, od_NotFull, .func (PySem.W.fnOf "__init__" "NotFull.__init__" (defArgs s_NotFull) (defBody s_NotFull) (defScope s_NotFull) .none kV_NotFull doc_NotFull pm_NotFull an_NotFull cd_NotFull ct_NotFull), sl_NotFull⟩)
    (cI_NotFull : PySem.W.codeIn K cd_NotFull "NotFull.__init__" = true)
    (kI_NotFull : PySem.W.keepIn K (.ref I_NotFull) = true)
    (aC_BadWord : PySem.W.nsIn K mainGlobals "BadWord" = some (some (.ref C_BadWord)))
    (xL_BadWord : K.lookup C_BadWord = some (excClassObj nm_BadWord q_BadWord C_BadWord N_BadWord bs_BadWord [.ref cj, .type "ValueError", .type "Exception", .type "BaseException", .type "object"] true sn_BadWord sub_BadWord ab_BadWord col_BadWord dd_BadWord m0_BadWord m1_BadWord m2_BadWord m3_BadWord m5_BadWord "ValueError.__new__"))
    (iI_BadWord : PySem.W.findIn K (.ref C_BadWord) "__init__" = some (some (.ref I_BadWord)))
    (eB_BadWord : errB K C_BadWord I_BadWord ["index"] = true)
    (lI_BadWord : K.lookup I_BadWord = some ⟨oc_BadWord, od_BadWord, .func (PySem.W.fnOf "__init__" "BadWord.__init__" (defArgs s_BadWord) (defBody s_BadWord) (defScope s_BadWord) .none kV_BadWord doc_BadWord pm_BadWord an_BadWord cd_BadWord ct_BadWord), sl_BadWord⟩)
    (cI_BadWord : PySem.W.codeIn K cd_BadWord "BadWord.__init__" = true)
    (kI_BadWord : PySem.W.keepIn K (.ref I_BadWord) = true)
    (aC_Begins : PySem.W.nsIn K mainGlobals "Begins" = some (some (.ref C_Begins)))
    (xL_Begins : K.lookup C_Begins = some (excClassObj nm_Begins q_Begins C_Begins N_Begins bs_Begins [.ref cj, .type "ValueError", .type "Exception", .type "BaseException", .type "object"] true sn_Begins sub_Begins ab_Begins col_Begins dd_Begins m0_Begins m1_Begins m2_Begins m3_Begins m5_Begins "ValueError.__new__"))
    (iI_Begins : PySem.W.findIn K (.ref C_Begins) "__init__" = some (some (.ref I_Begins)))
    (eB_Begins : errB K C_Begins I_Begins ["index", "other"] = true)
    (lI_Begins : K.lookup I_Begins = some ⟨oc_Begins, od_Begins, .func (PySem.W.fnOf "__init__" "Begins.__init__" (defArgs s_Begins) (defBody s_Begins) (defScope s_Begins) .none kV_Begins doc_Begins pm_Begins an_Begins cd_Begins ct_Begins), sl_Begins⟩)
    (cI_Begins : PySem.W.codeIn K cd_Begins "Begins.__init__" = true)
    (kI_Begins : PySem.W.keepIn K (.ref I_Begins) = true)
    (aC_BadOver : PySem.W.nsIn K mainGlobals "BadOver" = some (some (.ref C_BadOver)))
    (xL_BadOver : K.lookup C_BadOver = some (excClassObj nm_BadOver q_BadOver C_BadOver N_BadOver bs_BadOver [.ref cj, .type "ValueError", .type "Exception", .type "BaseException", .type "object"] true sn_BadOver sub_BadOver ab_BadOver col_BadOver dd_BadOver m0_BadOver m1_BadOver m2_BadOver m3_BadOver m5_BadOver "ValueError.__new__"))
    (iI_BadOver : PySem.W.findIn K (.ref C_BadOver) "__init__" = some (some (.ref I_BadOver)))
    (eB_BadOver : errB K C_BadOver I_BadOver [] = true)
    (lI_BadOver : K.lookup I_BadOver = some ⟨oc_BadOver, od_BadOver, .func (PySem.W.fnOf "__init__" "BadOver.__init__" (defArgs s_BadOver) (defBody s_BadOver) (defScope s_BadOver) .none kV_BadOver doc_BadOver pm_BadOver an_BadOver cd_BadOver ct_BadOver), sl_BadOver⟩)
    (cI_BadOver : PySem.W.codeIn K cd_BadOver "BadOver.__init__" = true)
    (kI_BadOver : PySem.W.keepIn K (.ref I_BadOver) = true)
    (aCC : PySem.W.nsIn K mainGlobals "Code" = some (some (.ref CC)))
    (iCC : PySem.W.findIn K (.ref CC) "__init__" = some (some (.ref f_init)))
    (l_init : K.lookup f_init = some ⟨oc_init, od_init, .func (PySem.W.fnOf "__init__" "Code.__init__" (defArgs s_init) (defBody s_init) (defScope s_init) (.ref T0) kV_init doc_init pm_init an_init cd_init ct_init), sl_init⟩)
    (c_init : PySem.W.codeIn K cd_init "Code.__init__" = true)
    (k_init : PySem.W.keepIn K (.ref f_init) = true)
    (lT : K.lookup T0 = some ⟨ot, odt, .seq #[.none] nT, slt⟩)
    (cCC : codeB K CC f_init = true)
    (jCC : icB K CC = true)
    (aCR : PySem.W.nsIn K mainGlobals "Ratio" = some (some (.ref CR)))
    (iCR : PySem.W.findIn K (.ref CR) "__init__" = some (some (.ref f_rinit)))
    (l_rinit : K.lookup f_rinit = some ⟨oc_rinit, od_rinit, .func (PySem.W.fnOf "__init__" "Ratio.__init__" (defArgs s_rinit) (defBody s_rinit) (defScope s_rinit) (.ref T1) kV_rinit doc_rinit pm_rinit an_rinit cd_rinit ct_rinit), sl_rinit⟩)
    (c_rinit : PySem.W.codeIn K cd_rinit "Ratio.__init__" = true)
    (k_rinit : PySem.W.keepIn K (.ref f_rinit) = true)
    (lT1 : K.lookup T1 = some ⟨ot1, odt1, .seq #[.int 1 tkT] nT1, slt1⟩)
    (cCR : ratioB K CR f_rinit = true)
    (jCR : icB K CR = true)
    (hj_TooMany : C_TooMany ≠ cj)
    (hn_TooMany_BadCount : C_TooMany ≠ C_BadCount)
    (hn_TooMany_BadLength : C_TooMany ≠ C_BadLength)
    (hn_TooMany_NotFull : C_TooMany ≠ C_NotFull)
    (hn_TooMany_BadWord : C_TooMany ≠ C_BadWord)
    (hn_TooMany_Begins : C_TooMany ≠ C_Begins)
    (hn_TooMany_BadOver : C_TooMany ≠ C_BadOver)
    (hj_BadCount : C_BadCount ≠ cj)
    (hn_BadCount_BadLength : C_BadCount ≠ C_BadLength)
    (hn_BadCount_NotFull : C_BadCount ≠ C_NotFull)
    (hn_BadCount_BadWord : C_BadCount ≠ C_BadWord)
    (hn_BadCount_Begins : C_BadCount ≠ C_Begins)
    (hn_BadCount_BadOver : C_BadCount ≠ C_BadOver)
    (hj_BadLength : C_BadLength ≠ cj)
    (hn_BadLength_NotFull : C_BadLength ≠ C_NotFull)
    (hn_BadLength_BadWord : C_BadLength ≠ C_BadWord)
    (hn_BadLength_Begins : C_BadLength ≠ C_Begins)
    (hn_BadLength_BadOver : C_BadLength ≠ C_BadOver)
    (hj_NotFull : C_NotFull ≠ cj)
    (hn_NotFull_BadWord : C_NotFull ≠ C_BadWord)
    (hn_NotFull_Begins : C_NotFull ≠ C_Begins)
    (hn_NotFull_BadOver : C_NotFull ≠ C_BadOver)
    (hj_BadWord : C_BadWord ≠ cj)
    (hn_BadWord_Begins : C_BadWord ≠ C_Begins)
    (hn_BadWord_BadOver : C_BadWord ≠ C_BadOver)
    (hj_Begins : C_Begins ≠ cj)
    (hn_Begins_BadOver : C_Begins ≠ C_BadOver)
    (hj_BadOver : C_BadOver ≠ cj)
    (q_gcd : PySem.W.nsIn K mainGlobals "gcd" = some (some (.builtin "math.gcd")))
    (q_FEWEST_SIGNS : PySem.W.nsIn K mainGlobals "FEWEST_SIGNS" = some (some (.int (2) tk_FEWEST_SIGNS)))
    (q_MOST_SIGNS : PySem.W.nsIn K mainGlobals "MOST_SIGNS" = some (some (.int (26) tk_MOST_SIGNS)))
    (q_LONGEST_WORD : PySem.W.nsIn K mainGlobals "LONGEST_WORD" = some (some (.int (25) tk_LONGEST_WORD)))
    (z_ValueError : PySem.W.nsIn K mainGlobals "ValueError" = some none)
    (z_abs : PySem.W.nsIn K mainGlobals "abs" = some none)
    (z_all : PySem.W.nsIn K mainGlobals "all" = some none)
    (z_bool : PySem.W.nsIn K mainGlobals "bool" = some none)
    (z_dict : PySem.W.nsIn K mainGlobals "dict" = some none)
    (z_enumerate : PySem.W.nsIn K mainGlobals "enumerate" = some none)
    (z_int : PySem.W.nsIn K mainGlobals "int" = some none)
    (z_isinstance : PySem.W.nsIn K mainGlobals "isinstance" = some none)
    (z_len : PySem.W.nsIn K mainGlobals "len" = some none)
    (z_list : PySem.W.nsIn K mainGlobals "list" = some none)
    (z_max : PySem.W.nsIn K mainGlobals "max" = some none)
    (z_range : PySem.W.nsIn K mainGlobals "range" = some none)
    (z_sorted : PySem.W.nsIn K mainGlobals "sorted" = some none)
    (z_str : PySem.W.nsIn K mainGlobals "str" = some none)
    (z_sum : PySem.W.nsIn K mainGlobals "sum" = some none)
    (z_tuple : PySem.W.nsIn K mainGlobals "tuple" = some none) :
    LawAtS l w K CX0 10 63 "_law_script" mg fa h := by
  have e := hfa.symm.trans (PySem.W.mg_of X G a_law)
  cases e
  have t_law : PySem.W.tabIn K "law" = some (C_law, P_law) := tab_mk a_law l_law rfl e_law v_law
  have FD : FunD K "__init__" "Code.__init__" (defArgs s_init) (defBody s_init) (defScope s_init) [.non] [] f_init (PySem.W.fnOf "__init__" "Code.__init__" (defArgs s_init) (defBody s_init) (defScope s_init) (.ref T0) kV_init doc_init pm_init an_init cd_init ct_init) :=
    ⟨⟨_, _, _, _, _, _, _, _, _, _, rfl, l_init, c_init, .inr ⟨by simp, T0, _, [.none], nT, rfl, lT, rfl, .cons rfl .nil⟩, .inl rfl⟩, k_init⟩
  have B1 : ∃ ds, Vals [V.non] ds ∧ Binds K (PySem.W.fnOf "__init__" "Code.__init__" (defArgs s_init) (defBody s_init) (defScope s_init) (.ref T0) kV_init doc_init pm_init an_init cd_init ct_init) ["self", "lengths", "words"] ds :=
    FD.binds1 2 0 (by simp) rfl fun T kV doc pm an cdv ct us its h1 h2 => match us, its, h1, h2 with | [_, _], [_], _, _ => ⟨_, rfl, rfl⟩
  have B2 : Binds K (PySem.W.fnOf "__init__" "Code.__init__" (defArgs s_init) (defBody s_init) (defScope s_init) (.ref T0) kV_init doc_init pm_init an_init cd_init ct_init) ["self", "lengths", "words"] [] := by
    obtain ⟨ds, r, b⟩ := FD.binds1 (ps := ["self", "lengths", "words"]) 3 1 (by simp) rfl fun T kV doc pm an cdv ct us its h1 h2 => match us, its, h1, h2 with | [_, _, _], [_], _, _ => ⟨_, rfl, rfl⟩
    cases r
    exact b
  have FR : FunD K "__init__" "Ratio.__init__" (defArgs s_rinit) (defBody s_rinit) (defScope s_rinit) [.int 1] [] f_rinit (PySem.W.fnOf "__init__" "Ratio.__init__" (defArgs s_rinit) (defBody s_rinit) (defScope s_rinit) (.ref T1) kV_rinit doc_rinit pm_rinit an_rinit cd_rinit ct_rinit) :=
    ⟨⟨_, _, _, _, _, _, _, _, _, _, rfl, l_rinit, c_rinit, .inr ⟨by simp, T1, _, [.int 1 tkT], nT1, rfl, lT1, rfl, .cons ⟨_, rfl⟩ .nil⟩, .inl rfl⟩, k_rinit⟩
  have B3 : Binds K (PySem.W.fnOf "__init__" "Ratio.__init__" (defArgs s_rinit) (defBody s_rinit) (defScope s_rinit) (.ref T1) kV_rinit doc_rinit pm_rinit an_rinit cd_rinit ct_rinit) ["self", "number", "over"] [] := by
    obtain ⟨ds, r, b⟩ := FR.binds1 (ps := ["self", "number", "over"]) 3 1 (by simp) rfl fun T kV doc pm an cdv ct us its h1 h2 => match us, its, h1, h2 with | [_, _, _], [_], _, _ => ⟨_, rfl, rfl⟩
    cases r
    exact b
  have T : Txt K mg { cj := cj, a_isint := f_isint, d_isint := PySem.W.fnOf "is_int" "is_int" (defArgs s_isint) (defBody s_isint) (defScope s_isint) .none kV_isint doc_isint pm_isint an_isint cd_isint ct_isint, a_kept := f_kept, d_kept := PySem.W.fnOf "kept" "kept" (defArgs s_kept) (defBody s_kept) (defScope s_kept) .none kV_kept doc_kept pm_kept an_kept cd_kept ct_kept, a_checkmany := f_checkmany, d_checkmany := PySem.W.fnOf "check_many" "check_many" (defArgs s_checkmany) (defBody s_checkmany) (defScope s_checkmany) .none kV_checkmany doc_checkmany pm_checkmany an_checkmany cd_checkmany ct_checkmany, a_checkcounts := f_checkcounts, d_checkcounts := PySem.W.fnOf "check_counts" "check_counts" (defArgs s_checkcounts) (defBody s_checkcounts) (defScope s_checkcounts) .none kV_checkcounts doc_checkcounts pm_checkcounts an_checkcounts cd_checkcounts ct_checkcounts, a_lens := f_lens, d_lens := PySem.W.fnOf "check_lengths" "check_lengths" (defArgs s_lens) (defBody s_lens) (defScope s_lens) .none kV_lens doc_lens pm_lens an_lens cd_lens ct_lens, a_isword := f_isword, d_isword := PySem.W.fnOf "is_word" "is_word" (defArgs s_isword) (defBody s_isword) (defScope s_isword) .none kV_isword doc_isword pm_isword an_isword cd_isword ct_isword, a_cwords := f_cwords, d_cwords := PySem.W.fnOf "check_words" "check_words" (defArgs s_cwords) (defBody s_cwords) (defScope s_cwords) .none kV_cwords doc_cwords pm_cwords an_cwords cd_cwords ct_cwords, a_canon := f_canon, d_canon := PySem.W.fnOf "canonical_words" "canonical_words" (defArgs s_canon) (defBody s_canon) (defScope s_canon) .none kV_canon doc_canon pm_canon an_canon cd_canon ct_canon, a_penof := f_penof, d_penof := PySem.W.fnOf "_law_pen_of" "_law_pen_of" (defArgs s_penof) (defBody s_penof) (defScope s_penof) .none kV_penof doc_penof pm_penof an_penof cd_penof ct_penof, a_draw := f_draw, d_draw := PySem.W.fnOf "_law_draw" "_law_draw" (defArgs s_draw) (defBody s_draw) (defScope s_draw) .none kV_draw doc_draw pm_draw an_draw cd_draw ct_draw, a_pick := f_pick, d_pick := PySem.W.fnOf "_law_pick" "_law_pick" (defArgs s_pick) (defBody s_pick) (defScope s_pick) .none kV_pick doc_pick pm_pick an_pick cd_pick ct_pick, a_countsof := f_countsof, d_countsof := PySem.W.fnOf "_law_counts_of" "_law_counts_of" (defArgs s_countsof) (defBody s_countsof) (defScope s_countsof) .none kV_countsof doc_countsof pm_countsof an_countsof cd_countsof ct_countsof, a_lof := f_lof, d_lof := PySem.W.fnOf "_law_lengths_of" "_law_lengths_of" (defArgs s_lof) (defBody s_lof) (defScope s_lof) .none kV_lof doc_lof pm_lof an_lof cd_lof ct_lof, a_two := f_two, d_two := PySem.W.fnOf "_law_two_to" "_law_two_to" (defArgs s_two) (defBody s_two) (defScope s_two) .none kV_two doc_two pm_two an_two cd_two ct_two, a_words := f_words, d_words := PySem.W.fnOf "_law_words" "_law_words" (defArgs s_words) (defBody s_words) (defScope s_words) .none kV_words doc_words pm_words an_words cd_words ct_words, a_refusal := f_refusal, d_refusal := PySem.W.fnOf "_law_refusal" "_law_refusal" (defArgs s_refusal) (defBody s_refusal) (defScope s_refusal) .none kV_refusal doc_refusal pm_refusal an_refusal cd_refusal ct_refusal, a_iswhole := f_iswhole, d_iswhole := PySem.W.fnOf "_law_is_whole" "_law_is_whole" (defArgs s_iswhole) (defBody s_iswhole) (defScope s_iswhole) .none kV_iswhole doc_iswhole pm_iswhole an_iswhole cd_iswhole ct_iswhole, a_countsdue := f_countsdue, d_countsdue := PySem.W.fnOf "_law_counts_due" "_law_counts_due" (defArgs s_countsdue) (defBody s_countsdue) (defScope s_countsdue) .none kV_countsdue doc_countsdue pm_countsdue an_countsdue cd_countsdue ct_countsdue, a_codedue := f_codedue, d_codedue := PySem.W.fnOf "_law_code_due" "_law_code_due" (defArgs s_codedue) (defBody s_codedue) (defScope s_codedue) .none kV_codedue doc_codedue pm_codedue an_codedue cd_codedue ct_codedue, a_spoilt := f_spoilt, d_spoilt := PySem.W.fnOf "_law_spoilt" "_law_spoilt" (defArgs s_spoilt) (defBody s_spoilt) (defScope s_spoilt) .none kV_spoilt doc_spoilt pm_spoilt an_spoilt cd_spoilt ct_spoilt, a_law := fa, d_law := PySem.W.fnOf "law" "law" (defArgs s_law) (defBody s_law) (defScope s_law) .none kV_law doc_law pm_law an_law (.ref C_law) ct_law, k_law := C_law, p_law := P_law, c_TooMany := C_TooMany, i_TooMany := I_TooMany, d_TooMany := PySem.W.fnOf "__init__" "TooMany.__init__" (defArgs s_TooMany) (defBody s_TooMany) (defScope s_TooMany) .none kV_TooMany doc_TooMany pm_TooMany an_TooMany cd_TooMany ct_TooMany, c_BadCount := C_BadCount, i_BadCount := I_BadCount, d_BadCount := PySem.W.fnOf "__init__" "BadCount.__init__" (defArgs s_BadCount) (defBody s_BadCount) (defScope s_BadCount) .none kV_BadCount doc_BadCount pm_BadCount an_BadCount cd_BadCount ct_BadCount, c_BadLength := C_BadLength, i_BadLength := I_BadLength, d_BadLength := PySem.W.fnOf "__init__" "BadLength.__init__" (defArgs s_BadLength) (defBody s_BadLength) (defScope s_BadLength) .none kV_BadLength doc_BadLength pm_BadLength an_BadLength cd_BadLength ct_BadLength, c_NotFull := C_NotFull, i_NotFull := I_NotFull, d_NotFull := PySem.W.fnOf "__init__" "NotFull.__init__" (defArgs s_NotFull) (defBody s_NotFull) (defScope s_NotFull) .none kV_NotFull doc_NotFull pm_NotFull an_NotFull cd_NotFull ct_NotFull, c_BadWord := C_BadWord, i_BadWord := I_BadWord, d_BadWord := PySem.W.fnOf "__init__" "BadWord.__init__" (defArgs s_BadWord) (defBody s_BadWord) (defScope s_BadWord) .none kV_BadWord doc_BadWord pm_BadWord an_BadWord cd_BadWord ct_BadWord, c_Begins := C_Begins, i_Begins := I_Begins, d_Begins := PySem.W.fnOf "__init__" "Begins.__init__" (defArgs s_Begins) (defBody s_Begins) (defScope s_Begins) .none kV_Begins doc_Begins pm_Begins an_Begins cd_Begins ct_Begins, c_BadOver := C_BadOver, i_BadOver := I_BadOver, d_BadOver := PySem.W.fnOf "__init__" "BadOver.__init__" (defArgs s_BadOver) (defBody s_BadOver) (defScope s_BadOver) .none kV_BadOver doc_BadOver pm_BadOver an_BadOver cd_BadOver ct_BadOver, c_Code := CC, a_init := f_init, d_init := PySem.W.fnOf "__init__" "Code.__init__" (defArgs s_init) (defBody s_init) (defScope s_init) (.ref T0) kV_init doc_init pm_init an_init cd_init ct_init, c_Ratio := CR, a_rinit := f_rinit, d_rinit := PySem.W.fnOf "__init__" "Ratio.__init__" (defArgs s_rinit) (defBody s_rinit) (defScope s_rinit) (.ref T1) kV_rinit doc_rinit pm_rinit an_rinit cd_rinit ct_rinit } := { F_isint := (fun_mk l_isint c_isint k_isint), g_isint := (PySem.W.mg_of X G a_isint), b_isint := ((fun_mk (st := s_isint) l_isint c_isint k_isint).binds fun _ _ _ _ _ _ us hl => match us, hl with | [_], _ => rfl), F_kept := (fun_mk l_kept c_kept k_kept), g_kept := (PySem.W.mg_of X G a_kept), b_kept := ((fun_mk (st := s_kept) l_kept c_kept k_kept).binds fun _ _ _ _ _ _ us hl => match us, hl with | [_], _ => rfl), F_checkmany := (fun_mk l_checkmany c_checkmany k_checkmany), g_checkmany := (PySem.W.mg_of X G a_checkmany), b_checkmany := ((fun_mk (st := s_checkmany) l_checkmany c_checkmany k_checkmany).binds fun _ _ _ _ _ _ us hl => match us, hl with | [_], _ => rfl), F_checkcounts := (fun_mk l_checkcounts c_checkcounts k_checkcounts), g_checkcounts := (PySem.W.mg_of X G a_checkcounts), b_checkcounts := ((fun_mk (st := s_checkcounts) l_checkcounts c_checkcounts k_checkcounts).binds fun _ _ _ _ _ _ us hl => match us, hl with | [_], _ => rfl), F_lens := (fun_mk l_lens c_lens k_lens), g_lens := (PySem.W.mg_of X G a_lens), b_lens := ((fun_mk (st := s_lens) l_lens c_lens k_lens).binds fun _ _ _ _ _ _ us hl => match us, hl with | [_], _ => rfl), F_isword := (fun_mk l_isword c_isword k_isword), g_isword := (PySem.W.mg_of X G a_isword), b_isword := ((fun_mk (st := s_isword) l_isword c_isword k_isword).binds fun _ _ _ _ _ _ us hl => match us, hl with | [_, _], _ => rfl), F_cwords := (fun_mk l_cwords c_cwords k_cwords), g_cwords := (PySem.W.mg_of X G a_cwords), b_cwords := ((fun_mk (st := s_cwords) l_cwords c_cwords k_cwords).binds fun _ _ _ _ _ _ us hl => match us, hl with | [_, _], _ => rfl), F_canon := (fun_mk l_canon c_canon k_canon), g_canon := (PySem.W.mg_of X G a_canon), b_canon := ((fun_mk (st := s_canon) l_canon c_canon k_canon).binds fun _ _ _ _ _ _ us hl => match us, hl with | [_], _ => rfl), F_penof := (fun_mk l_penof c_penof k_penof), g_penof := (PySem.W.mg_of X G a_penof), b_penof := ((fun_mk (st := s_penof) l_penof c_penof k_penof).binds fun _ _ _ _ _ _ us hl => match us, hl with | [_], _ => rfl), F_draw := (fun_mk l_draw c_draw k_draw), g_draw := (PySem.W.mg_of X G a_draw), b_draw := ((fun_mk (st := s_draw) l_draw c_draw k_draw).binds fun _ _ _ _ _ _ us hl => match us, hl with | [_, _], _ => rfl), F_pick := (fun_mk l_pick c_pick k_pick), g_pick := (PySem.W.mg_of X G a_pick), b_pick := ((fun_mk (st := s_pick) l_pick c_pick k_pick).binds fun _ _ _ _ _ _ us hl => match us, hl with | [_, _], _ => rfl), F_countsof := (fun_mk l_countsof c_countsof k_countsof), g_countsof := (PySem.W.mg_of X G a_countsof), b_countsof := ((fun_mk (st := s_countsof) l_countsof c_countsof k_countsof).binds fun _ _ _ _ _ _ us hl => match us, hl with | [_, _], _ => rfl), F_lof := (fun_mk l_lof c_lof k_lof), g_lof := (PySem.W.mg_of X G a_lof), b_lof := ((fun_mk (st := s_lof) l_lof c_lof k_lof).binds fun _ _ _ _ _ _ us hl => match us, hl with | [_, _], _ => rfl), F_two := (fun_mk l_two c_two k_two), g_two := (PySem.W.mg_of X G a_two), b_two := ((fun_mk (st := s_two) l_two c_two k_two).binds fun _ _ _ _ _ _ us hl => match us, hl with | [_], _ => rfl), F_words := (fun_mk l_words c_words k_words), g_words := (PySem.W.mg_of X G a_words), b_words := ((fun_mk (st := s_words) l_words c_words k_words).binds fun _ _ _ _ _ _ us hl => match us, hl with | [_], _ => rfl), F_refusal := (fun_mk l_refusal c_refusal k_refusal), g_refusal := (PySem.W.mg_of X G a_refusal), b_refusal := ((fun_mk (st := s_refusal) l_refusal c_refusal k_refusal).binds fun _ _ _ _ _ _ us hl => match us, hl with | [_], _ => rfl), F_iswhole := (fun_mk l_iswhole c_iswhole k_iswhole), g_iswhole := (PySem.W.mg_of X G a_iswhole), b_iswhole := ((fun_mk (st := s_iswhole) l_iswhole c_iswhole k_iswhole).binds fun _ _ _ _ _ _ us hl => match us, hl with | [_, _], _ => rfl), F_countsdue := (fun_mk l_countsdue c_countsdue k_countsdue), g_countsdue := (PySem.W.mg_of X G a_countsdue), b_countsdue := ((fun_mk (st := s_countsdue) l_countsdue c_countsdue k_countsdue).binds fun _ _ _ _ _ _ us hl => match us, hl with | [_], _ => rfl), F_codedue := (fun_mk l_codedue c_codedue k_codedue), g_codedue := (PySem.W.mg_of X G a_codedue), b_codedue := ((fun_mk (st := s_codedue) l_codedue c_codedue k_codedue).binds fun _ _ _ _ _ _ us hl => match us, hl with | [_, _], _ => rfl), F_spoilt := (fun_mk l_spoilt c_spoilt k_spoilt), g_spoilt := (PySem.W.mg_of X G a_spoilt), b_spoilt := ((fun_mk (st := s_spoilt) l_spoilt c_spoilt k_spoilt).binds fun _ _ _ _ _ _ us hl => match us, hl with | [_, _, _], _ => rfl), F_law := (func_mk l_law c_law k_law), g_law := (PySem.W.mg_of X G a_law), b_law := ((func_mk (st := s_law) l_law c_law k_law).fn.binds fun _ _ _ _ _ _ us hl => match us, hl with | [_], _ => rfl), E_TooMany := (ec_mk X G aC_TooMany xL_TooMany eB_TooMany lI_TooMany cI_TooMany kI_TooMany ⟨fun s us ws _ h1 h2 => match us, ws, h1, h2 with | [_, _, _, _], [], _, _ => .of_eq rfl, fun r _ => r⟩ ((fun_mk (st := s_TooMany) lI_TooMany cI_TooMany kI_TooMany).binds fun _ _ _ _ _ _ us hl => match us, hl with | [_, _, _, _], _ => rfl)), E_BadCount := (ec_mk X G aC_BadCount xL_BadCount eB_BadCount lI_BadCount cI_BadCount kI_BadCount ⟨fun s us ws _ h1 h2 => match us, ws, h1, h2 with | [_, _], [], _, _ => .of_eq rfl, fun r _ => r⟩ ((fun_mk (st := s_BadCount) lI_BadCount cI_BadCount kI_BadCount).binds fun _ _ _ _ _ _ us hl => match us, hl with | [_, _], _ => rfl)), E_BadLength := (ec_mk X G aC_BadLength xL_BadLength eB_BadLength lI_BadLength cI_BadLength kI_BadLength ⟨fun s us ws _ h1 h2 => match us, ws, h1, h2 with | [_, _], [], _, _ => .of_eq rfl, fun r _ => r⟩ ((fun_mk (st := s_BadLength) lI_BadLength cI_BadLength kI_BadLength).binds fun _ _ _ _ _ _ us hl => match us, hl with | [_, _], _ => rfl)), E_NotFull := (ec_mk X G aC_NotFull xL_NotFull eB_NotFull lI_NotFull cI_NotFull kI_NotFull ⟨fun s us ws _ h1 h2 => match us, ws, h1, h2 with | [_], [], _, _ => .of_eq rfl, fun r _ => r⟩ ((fun_mk (st := s_NotFull) lI_NotFull cI_NotFull kI_NotFull).binds fun _ _ _ _ _ _ us hl => match us, hl with | [_], _ => rfl)), E_BadWord := (ec_mk X G aC_BadWord xL_BadWord eB_BadWord lI_BadWord cI_BadWord kI_BadWord ⟨fun s us ws _ h1 h2 => match us, ws, h1, h2 with | [_, _], [], _, _ => .of_eq rfl, fun r _ => r⟩ ((fun_mk (st := s_BadWord) lI_BadWord cI_BadWord kI_BadWord).binds fun _ _ _ _ _ _ us hl => match us, hl with | [_, _], _ => rfl)), E_Begins := (ec_mk X G aC_Begins xL_Begins eB_Begins lI_Begins cI_Begins kI_Begins ⟨fun s us ws _ h1 h2 => match us, ws, h1, h2 with | [_, _, _], [], _, _ => .of_eq rfl, fun r _ => r⟩ ((fun_mk (st := s_Begins) lI_Begins cI_Begins kI_Begins).binds fun _ _ _ _ _ _ us hl => match us, hl with | [_, _, _], _ => rfl)), E_BadOver := (ec_mk X G aC_BadOver xL_BadOver eB_BadOver lI_BadOver cI_BadOver kI_BadOver ⟨fun s us ws _ h1 h2 => match us, ws, h1, h2 with | [_], [], _, _ => .of_eq rfl, fun r _ => r⟩ ((fun_mk (st := s_BadOver) lI_BadOver cI_BadOver kI_BadOver).binds fun _ _ _ _ _ _ us hl => match us, hl with | [_], _ => rfl)), B := (⟨rJ, sJ, vJ⟩), gj := (PySem.W.mg_of X G aJ), cj := (iJ), tj := (tJ), g_Code := (PySem.W.mg_of X G aCC), Co := (cc_mk cCC), Ico := (ic_mk jCC), g_Ratio := (PySem.W.mg_of X G aCR), Ro := (rc_mk cCR), Iro := (ic_mk jCR), nj_TooMany := (hj_TooMany), n_TooMany_BadCount := (hn_TooMany_BadCount), n_TooMany_BadLength := (hn_TooMany_BadLength), n_TooMany_NotFull := (hn_TooMany_NotFull), n_TooMany_BadWord := (hn_TooMany_BadWord), n_TooMany_Begins := (hn_TooMany_Begins), n_TooMany_BadOver := (hn_TooMany_BadOver), nj_BadCount := (hj_BadCount), n_BadCount_BadLength := (hn_BadCount_BadLength), n_BadCount_NotFull := (hn_BadCount_NotFull), n_BadCount_BadWord := (hn_BadCount_BadWord), n_BadCount_Begins := (hn_BadCount_Begins), n_BadCount_BadOver := (hn_BadCount_BadOver), nj_BadLength := (hj_BadLength), n_BadLength_NotFull := (hn_BadLength_NotFull), n_BadLength_BadWord := (hn_BadLength_BadWord), n_BadLength_Begins := (hn_BadLength_Begins), n_BadLength_BadOver := (hn_BadLength_BadOver), nj_NotFull := (hj_NotFull), n_NotFull_BadWord := (hn_NotFull_BadWord), n_NotFull_Begins := (hn_NotFull_Begins), n_NotFull_BadOver := (hn_NotFull_BadOver), nj_BadWord := (hj_BadWord), n_BadWord_Begins := (hn_BadWord_Begins), n_BadWord_BadOver := (hn_BadWord_BadOver), nj_Begins := (hj_Begins), n_Begins_BadOver := (hn_Begins_BadOver), nj_BadOver := (hj_BadOver), z_gcd := (PySem.W.mg_of X G q_gcd), k_FEWEST_SIGNS := (⟨_, PySem.W.mg_of X G q_FEWEST_SIGNS⟩), k_MOST_SIGNS := (⟨_, PySem.W.mg_of X G q_MOST_SIGNS⟩), k_LONGEST_WORD := (⟨_, PySem.W.mg_of X G q_LONGEST_WORD⟩), z_ValueError := (PySem.W.mg_none_of X G z_ValueError), z_abs := (PySem.W.mg_none_of X G z_abs), z_all := (PySem.W.mg_none_of X G z_all), z_bool := (PySem.W.mg_none_of X G z_bool), z_dict := (PySem.W.mg_none_of X G z_dict), z_enumerate := (PySem.W.mg_none_of X G z_enumerate), z_int := (PySem.W.mg_none_of X G z_int), z_isinstance := (PySem.W.mg_none_of X G z_isinstance), z_len := (PySem.W.mg_none_of X G z_len), z_list := (PySem.W.mg_none_of X G z_list), z_max := (PySem.W.mg_none_of X G z_max), z_range := (PySem.W.mg_none_of X G z_range), z_sorted := (PySem.W.mg_none_of X G z_sorted), z_str := (PySem.W.mg_none_of X G z_str), z_sum := (PySem.W.mg_none_of X G z_sum), z_tuple := (PySem.W.mg_none_of X G z_tuple), F_init := (FD), b_init1 := (B1), b_init2 := (B2), F_rinit := (FR), b_rinit2 := (B3) }
  refine ⟨_, [(C_law, P_law)], spLaw K _, fun p hp => ?_, fun p hp => ?_, fun p hp => ?_, fun s u => .of_eq rfl, fun H a ns hl _ hH hS => ⟨a, ns, rfl, hS, hl, fun p hp => ?_, fun _ => rfl⟩, fun base _ _ tb => ok_law T (tb (C_law, P_law) (by simp))⟩
  · simp only [List.mem_cons, List.not_mem_nil, or_false] at hp
    subst hp
    exact (TF _ _ _ r_law t_law).2
  · simp only [List.mem_cons, List.not_mem_nil, or_false] at hp
    subst hp
    exact n_law
  · simp only [List.mem_cons, List.not_mem_nil, or_false] at hp
    subst hp
    exact (TF _ _ _ r_law t_law).1
  · unfold TL at hp
    simp only [List.mem_cons, List.not_mem_nil, or_false] at hp
    subst hp
    exact TabS.nil (hH (C_law, P_law) (by simp))
end
end Z

set_option Elab.async false
open PySem PySem.W PyProof.Rows
set_option maxRecDepth 100000
set_option maxHeartbeats 0
open_top k36head for PySem.Challenge.rw_leastjoined_k36_codes_refused

open PySem PySem.W PyProof.Rows
set_option Elab.async false
set_option maxRecDepth 100000
set_option maxHeartbeats 0
theorem PySem.Challenge.cw_leastjoined_k36_codes_refused_holds : PySem.Challenge.rw_leastjoined_k36_codes_refused.Holds := by
  refine k36head ?_
  k_fill
  refine XV.walk_ofTab (l := PySem.Challenge.rw_leastjoined_k36_codes_refused) (n := 63) (k := 10) (x := "_law_script") (CX := fun _ => L2.CX0) rfl (by decide) rfl ⟨rfl, by decide, by decide⟩ (fun w h Y => PySem.W.km_in_of Y) ?F ?hCX
  case hCX => intro w H s e s' h; exact h
  case F =>
    intro w mg fa h TF Y KX G hmg
    refine' Z.all_mk TF KX G hmg ?a_isint ?l_isint ?c_isint ?k_isint ?a_kept ?l_kept ?c_kept ?k_kept ?a_checkmany ?l_checkmany ?c_checkmany ?k_checkmany ?a_checkcounts ?l_checkcounts ?c_checkcounts ?k_checkcounts ?a_lens ?l_lens ?c_lens ?k_lens ?a_isword ?l_isword ?c_isword ?k_isword ?a_cwords ?l_cwords ?c_cwords ?k_cwords ?a_canon ?l_canon ?c_canon ?k_canon ?a_penof ?l_penof ?c_penof ?k_penof ?a_draw ?l_draw ?c_draw ?k_draw ?a_pick ?l_pick ?c_pick ?k_pick ?a_countsof ?l_countsof ?c_countsof ?k_countsof ?a_lof ?l_lof ?c_lof ?k_lof ?a_two ?l_two ?c_two ?k_two ?a_words ?l_words ?c_words ?k_words ?a_refusal ?l_refusal ?c_refusal ?k_refusal ?a_iswhole ?l_iswhole ?c_iswhole ?k_iswhole ?a_countsdue ?l_countsdue ?c_countsdue ?k_countsdue ?a_codedue ?l_codedue ?c_codedue ?k_codedue ?a_spoilt ?l_spoilt ?c_spoilt ?k_spoilt ?a_law ?l_law ?c_law ?k_law ?e_law ?v_law ?r_law ?n_law ?aJ ?rJ ?sJ ?vJ ?iJ ?tJ ?aC_TooMany ?xL_TooMany ?iI_TooMany ?eB_TooMany ?lI_TooMany ?cI_TooMany ?kI_TooMany ?aC_BadCount ?xL_BadCount ?iI_BadCount ?eB_BadCount ?lI_BadCount ?cI_BadCount ?kI_BadCount ?aC_BadLength ?xL_BadLength ?iI_BadLength ?eB_BadLength ?lI_BadLength ?cI_BadLength ?kI_BadLength ?aC_NotFull ?xL_NotFull ?iI_NotFull ?eB_NotFull ?lI_NotFull ?cI_NotFull ?kI_NotFull ?aC_BadWord ?xL_BadWord ?iI_BadWord ?eB_BadWord ?lI_BadWord ?cI_BadWord ?kI_BadWord ?aC_Begins ?xL_Begins ?iI_Begins ?eB_Begins ?lI_Begins ?cI_Begins ?kI_Begins ?aC_BadOver ?xL_BadOver ?iI_BadOver ?eB_BadOver ?lI_BadOver ?cI_BadOver ?kI_BadOver ?aCC ?iCC ?l_init ?c_init ?k_init ?lT ?cCC ?jCC ?aCR ?iCR ?l_rinit ?c_rinit ?k_rinit ?lT1 ?cCR ?jCR ?hj_TooMany ?hn_TooMany_BadCount ?hn_TooMany_BadLength ?hn_TooMany_NotFull ?hn_TooMany_BadWord ?hn_TooMany_Begins ?hn_TooMany_BadOver ?hj_BadCount ?hn_BadCount_BadLength ?hn_BadCount_NotFull ?hn_BadCount_BadWord ?hn_BadCount_Begins ?hn_BadCount_BadOver ?hj_BadLength ?hn_BadLength_NotFull ?hn_BadLength_BadWord ?hn_BadLength_Begins ?hn_BadLength_BadOver ?hj_NotFull ?hn_NotFull_BadWord ?hn_NotFull_Begins ?hn_NotFull_BadOver ?hj_BadWord ?hn_BadWord_Begins ?hn_BadWord_BadOver ?hj_Begins ?hn_Begins_BadOver ?hj_BadOver ?q_gcd ?q_FEWEST_SIGNS ?q_MOST_SIGNS ?q_LONGEST_WORD ?z_ValueError ?z_abs ?z_all ?z_bool ?z_dict ?z_enumerate ?z_int ?z_isinstance ?z_len ?z_list ?z_max ?z_range ?z_sorted ?z_str ?z_sum ?z_tuple
    (case a_isint => k_is)
    (case l_isint => k_is)
    (case c_isint => k_is)
    (case k_isint => k_is)
    (case a_kept => k_is)
    (case l_kept => k_is)
    (case c_kept => k_is)
    (case k_kept => k_is)
    (case a_checkmany => k_is)
    (case l_checkmany => k_is)
    (case c_checkmany => k_is)
    (case k_checkmany => k_is)
    (case a_checkcounts => k_is)
    (case l_checkcounts => k_is)
    (case c_checkcounts => k_is)
    (case k_checkcounts => k_is)
    (case a_lens => k_is)
    (case l_lens => k_is)
    (case c_lens => k_is)
    (case k_lens => k_is)
    (case a_isword => k_is)
    (case l_isword => k_is)
    (case c_isword => k_is)
    (case k_isword => k_is)
    (case a_cwords => k_is)
    (case l_cwords => k_is)
    (case c_cwords => k_is)
    (case k_cwords => k_is)
    (case a_canon => k_is)
    (case l_canon => k_is)
    (case c_canon => k_is)
    (case k_canon => k_is)
    (case a_penof => k_is)
    (case l_penof => k_is)
    (case c_penof => k_is)
    (case k_penof => k_is)
    (case a_draw => k_is)
    (case l_draw => k_is)
    (case c_draw => k_is)
    (case k_draw => k_is)
    (case a_pick => k_is)
    (case l_pick => k_is)
    (case c_pick => k_is)
    (case k_pick => k_is)
    (case a_countsof => k_is)
    (case l_countsof => k_is)
    (case c_countsof => k_is)
    (case k_countsof => k_is)
    (case a_lof => k_is)
    (case l_lof => k_is)
    (case c_lof => k_is)
    (case k_lof => k_is)
    (case a_two => k_is)
    (case l_two => k_is)
    (case c_two => k_is)
    (case k_two => k_is)
    (case a_words => k_is)
    (case l_words => k_is)
    (case c_words => k_is)
    (case k_words => k_is)
    (case a_refusal => k_is)
    (case l_refusal => k_is)
    (case c_refusal => k_is)
    (case k_refusal => k_is)
    (case a_iswhole => k_is)
    (case l_iswhole => k_is)
    (case c_iswhole => k_is)
    (case k_iswhole => k_is)
    (case a_countsdue => k_is)
    (case l_countsdue => k_is)
    (case c_countsdue => k_is)
    (case k_countsdue => k_is)
    (case a_codedue => k_is)
    (case l_codedue => k_is)
    (case c_codedue => k_is)
    (case k_codedue => k_is)
    (case a_spoilt => k_is)
    (case l_spoilt => k_is)
    (case c_spoilt => k_is)
    (case k_spoilt => k_is)
    (case a_law => k_is)
    (case l_law => k_is)
    (case c_law => k_is)
    (case k_law => k_is)
    (case e_law => k_is)
    (case v_law => exact rfl)
    (case r_law => kernel_rfl)
    (case n_law => kernel_rfl)
    (case aJ => k_is)
    (case rJ => first | k_is | kernel_rfl)
    (case sJ => first | k_is | kernel_rfl)
    (case vJ => first | k_is | kernel_rfl)
    (case iJ => first | k_is | kernel_rfl)
    (case tJ => first | k_is | kernel_rfl)
    (case aC_TooMany => k_is)
    (case xL_TooMany => k_is)
    (case iI_TooMany => k_is)
    (case eB_TooMany => kernel_rfl)
    (case lI_TooMany => k_is)
    (case cI_TooMany => k_is)
    (case kI_TooMany => k_is)
    (case aC_BadCount => k_is)
    (case xL_BadCount => k_is)
    (case iI_BadCount => k_is)
    (case eB_BadCount => kernel_rfl)
    (case lI_BadCount => k_is)
    (case cI_BadCount => k_is)
    (case kI_BadCount => k_is)
    (case aC_BadLength => k_is)
    (case xL_BadLength => k_is)
    (case iI_BadLength => k_is)
    (case eB_BadLength => kernel_rfl)
    (case lI_BadLength => k_is)
    (case cI_BadLength => k_is)
    (case kI_BadLength => k_is)
    (case aC_NotFull => k_is)
    (case xL_NotFull => k_is)
    (case iI_NotFull => k_is)
    (case eB_NotFull => kernel_rfl)
    (case lI_NotFull => k_is)
    (case cI_NotFull => k_is)
    (case kI_NotFull => k_is)
    (case aC_BadWord => k_is)
    (case xL_BadWord => k_is)
    (case iI_BadWord => k_is)
    (case eB_BadWord => kernel_rfl)
    (case lI_BadWord => k_is)
    (case cI_BadWord => k_is)
    (case kI_BadWord => k_is)
    (case aC_Begins => k_is)
    (case xL_Begins => k_is)
    (case iI_Begins => k_is)
    (case eB_Begins => kernel_rfl)
    (case lI_Begins => k_is)
    (case cI_Begins => k_is)
    (case kI_Begins => k_is)
    (case aC_BadOver => k_is)
    (case xL_BadOver => k_is)
    (case iI_BadOver => k_is)
    (case eB_BadOver => kernel_rfl)
    (case lI_BadOver => k_is)
    (case cI_BadOver => k_is)
    (case kI_BadOver => k_is)
    (case aCC => k_is)
    (case iCC => k_is)
    (case l_init => k_is)
    (case c_init => k_is)
    (case k_init => k_is)
    (case lT => k_is)
    (case cCC => kernel_rfl)
    (case jCC => kernel_rfl)
    (case aCR => k_is)
    (case iCR => k_is)
    (case l_rinit => k_is)
    (case c_rinit => k_is)
    (case k_rinit => k_is)
    (case lT1 => k_is)
    (case cCR => kernel_rfl)
    (case jCR => kernel_rfl)
    (case hj_TooMany => decide)
    (case hn_TooMany_BadCount => decide)
    (case hn_TooMany_BadLength => decide)
    (case hn_TooMany_NotFull => decide)
    (case hn_TooMany_BadWord => decide)
    (case hn_TooMany_Begins => decide)
    (case hn_TooMany_BadOver => decide)
    (case hj_BadCount => decide)
    (case hn_BadCount_BadLength => decide)
    (case hn_BadCount_NotFull => decide)
    (case hn_BadCount_BadWord => decide)
    (case hn_BadCount_Begins => decide)
    (case hn_BadCount_BadOver => decide)
    (case hj_BadLength => decide)
    (case hn_BadLength_NotFull => decide)
    (case hn_BadLength_BadWord => decide)
    (case hn_BadLength_Begins => decide)
    (case hn_BadLength_BadOver => decide)
    (case hj_NotFull => decide)
    (case hn_NotFull_BadWord => decide)
    (case hn_NotFull_Begins => decide)
    (case hn_NotFull_BadOver => decide)
    (case hj_BadWord => decide)
    (case hn_BadWord_Begins => decide)
    (case hn_BadWord_BadOver => decide)
    (case hj_Begins => decide)
    (case hn_Begins_BadOver => decide)
    (case hj_BadOver => decide)
    (case q_gcd => k_is)
    (case q_FEWEST_SIGNS => k_is)
    (case q_MOST_SIGNS => k_is)
    (case q_LONGEST_WORD => k_is)
    (case z_ValueError => k_is)
    (case z_abs => k_is)
    (case z_all => k_is)
    (case z_bool => k_is)
    (case z_dict => k_is)
    (case z_enumerate => k_is)
    (case z_int => k_is)
    (case z_isinstance => k_is)
    (case z_len => k_is)
    (case z_list => k_is)
    (case z_max => k_is)
    (case z_range => k_is)
    (case z_sorted => k_is)
    (case z_str => k_is)
    (case z_sum => k_is)
    (case z_tuple => k_is)

