import PyProof.Rows.All
import Wide.All
import OpenK.AllK
import Wide.FinOn
import HandS.ForMost
import HandS.FStr
import PyProof.Rows.StrIntSpec
import HandS.Text
import HandS.ReplaceList
import PyProof.Rows.RegReprOcc
import HandS.Walk
import KE.GoesEnum
import KE.GoesNew
import KE.GoesMore
import KE.DataMinMax
import HandS.Iter
import HandS.List
import HandS.OwnEq
import HandS.SlotsOwn
import PyProof.InstNe
import OpenK.KMake
import HandS.Replace
import HandS.ReplaceLit
import HandS.Comp
import PyProof.ToksMono
import HandS.Style
import HandS.Defaults
import HandS.StrMore
import HandS.SortRule
import HandS.IsInst
import PySem.Challenge.RW_leastjoined_k37_words_of_codes
set_option linter.all false
set_option maxRecDepth 100000
/-! canonical words: numbers of sums of widths; no word begins another one -/
namespace KR
/-- the last k bits of a number, as signs -/
def bitsL : Nat → Nat → List Nat
  | 0, _ => []
  | k + 1, n => bitsL k (n / 2) ++ [48 + n % 2]
theorem bits_len : ∀ (k n : Nat), (bitsL k n).length = k
  | 0, _ => rfl
  | k + 1, n => by simp [bitsL, bits_len k]
theorem bits_01 : ∀ (k n : Nat), ∀ c ∈ bitsL k n, c = 48 ∨ c = 49
  | 0, _, c, h => by cases h
  | k + 1, n, c, h => by
    simp only [bitsL, List.mem_append, List.mem_singleton] at h
    rcases h with h | h
    · exact bits_01 k _ c h
    · have := Nat.mod_two_eq_zero_or_one n
      omega
theorem bits_add : ∀ (b a n : Nat), bitsL (a + b) n = bitsL a (n / 2 ^ b) ++ bitsL b n
  | 0, a, n => by simp [bitsL]
  | b + 1, a, n => by
    show bitsL (a + b) (n / 2) ++ [48 + n % 2] = _
    rw [bits_add b a (n / 2), Nat.div_div_eq_div_mul, Nat.pow_succ, Nat.mul_comm 2 (2 ^ b), List.append_assoc]
    rfl
theorem bits_inj : ∀ (k n m : Nat), bitsL k n = bitsL k m → n % 2 ^ k = m % 2 ^ k
  | 0, n, m, _ => by simp [Nat.mod_one]
  | k + 1, n, m, h => by
    have h1 := List.append_inj h (by rw [bits_len, bits_len])
    have e1 := bits_inj k _ _ h1.1
    have e2 : 48 + n % 2 = 48 + m % 2 := by simpa using h1.2
    have e3 : n % 2 = m % 2 := by omega
    rw [Nat.pow_succ, Nat.mul_comm, Nat.mod_mul, Nat.mod_mul, e1, e3]
theorem bits_zero : ∀ k, bitsL k 0 = List.replicate k 48
  | 0 => rfl
  | k + 1 => by
    show bitsL k (0 / 2) ++ [48] = _
    rw [show (0 : Nat) / 2 = 0 from rfl, bits_zero k, ← List.replicate_succ']
/-! ### pairs (length, sign) and their order -/
abbrev Pr := Nat × Nat
def ltB (q p : Pr) : Bool := decide (q.1 < p.1 ∨ (q.1 = p.1 ∧ q.2 < p.2))
theorem ltB_iff {q p : Pr} : ltB q p = true ↔ (q.1 < p.1 ∨ (q.1 = p.1 ∧ q.2 < p.2)) := by unfold ltB; simp
theorem ltB_irr (p : Pr) : ltB p p = false := by
  cases h : ltB p p with
  | false => rfl
  | true => have := ltB_iff.mp h; omega
theorem ltB_trans {a b c : Pr} (h : ltB a b = true) (k : ltB b c = true) : ltB a c = true := by
  rw [ltB_iff] at *; omega
theorem ltB_tri {a b : Pr} (h : a ≠ b) : ltB a b = true ∨ ltB b a = true := by
  rw [ltB_iff, ltB_iff]
  by_cases c : a.1 = b.1
  · have : a.2 ≠ b.2 := fun e => h (Prod.ext c e)
    omega
  · omega
def sumF (P : List Pr) (c : Pr → Bool) (f : Pr → Nat) : Nat := ((P.filter c).map f).sum
theorem sumF_le {P : List Pr} {c d : Pr → Bool} {f : Pr → Nat} (h : ∀ r, c r = true → d r = true) : sumF P c f ≤ sumF P d f := by
  induction P with
  | nil => exact Nat.le_refl _
  | cons r P ih =>
    unfold sumF at *
    simp only [List.filter_cons]
    cases hc : c r with
    | true => rw [h r hc]; simp only [if_true, List.map_cons, List.sum_cons]; omega
    | false =>
      cases hd : d r with
      | true => simp only [Bool.false_eq_true, if_false, if_true, List.map_cons, List.sum_cons]; omega
      | false => simpa using ih
theorem sumF_add {P : List Pr} {c d : Pr → Bool} {f : Pr → Nat} {q : Pr} (hq : q ∈ P) (h : ∀ r, c r = true → d r = true) (hd : d q = true) (hc : c q = false) : sumF P c f + f q ≤ sumF P d f := by
  induction P with
  | nil => cases hq
  | cons r P ih =>
    by_cases e : q = r
    · subst e
      have := sumF_le (P := P) (f := f) h
      unfold sumF at *
      simp only [List.filter_cons, hc, hd, Bool.false_eq_true, if_false, if_true, List.map_cons, List.sum_cons]
      omega
    · have ih := ih ((List.mem_cons.mp hq).resolve_left e)
      unfold sumF at *
      simp only [List.filter_cons]
      cases hc' : c r with
      | true => rw [h r hc']; simp only [if_true, List.map_cons, List.sum_cons]; omega
      | false =>
        cases hd' : d r with
        | true => simp only [Bool.false_eq_true, if_false, if_true, List.map_cons, List.sum_cons]; omega
        | false => simpa using ih
/-- the number of a pair's word -/
def num (P : List Pr) (p : Pr) : Nat := sumF P (fun q => ltB q p) fun q => 2 ^ (p.1 - q.1)
theorem sumF_scale (P : List Pr) (c : Pr → Bool) (f g : Pr → Nat) (m : Nat) (h : ∀ r ∈ P, c r = true → f r * m = g r) : sumF P c f * m = sumF P c g := by
  induction P with
  | nil => unfold sumF; simp
  | cons r P ih =>
    have ih := ih fun r hr => h r (List.mem_cons_of_mem _ hr)
    unfold sumF at *
    simp only [List.filter_cons]
    cases hc : c r with
    | true =>
      simp only [if_true, List.map_cons, List.sum_cons]
      rw [Nat.add_mul, ih, h r (List.mem_cons_self ..) hc]
    | false => simpa using ih
theorem pow_split {a b c : Nat} (h1 : a ≤ b) (h2 : b ≤ c) : 2 ^ (b - a) * 2 ^ (c - b) = 2 ^ (c - a) := by
  rw [← Nat.pow_add]; congr 1; omega
/-- the widths together -/
def Kr (P : List Pr) : Prop := (P.map fun q => 2 ^ (25 - q.1)).sum = 2 ^ 25 ∧ ∀ q ∈ P, 1 ≤ q.1 ∧ q.1 ≤ 25
theorem sumF_all (P : List Pr) (f : Pr → Nat) : sumF P (fun _ => true) f = (P.map f).sum := by
  unfold sumF
  congr 2
  exact List.filter_eq_self.mpr fun _ _ => rfl
theorem num_lt {P : List Pr} (K : Kr P) {p : Pr} (hp : p ∈ P) : num P p < 2 ^ p.1 := by
  have l := (K.2 p hp).2
  have h1 : num P p * 2 ^ (25 - p.1) = sumF P (fun q => ltB q p) fun q => 2 ^ (25 - q.1) :=
    sumF_scale _ _ _ _ _ fun r hr c => by
      have := ltB_iff.mp c
      exact pow_split (by omega) l
  have h2 : (sumF P (fun q => ltB q p) fun q => 2 ^ (25 - q.1)) + 2 ^ (25 - p.1) ≤ sumF P (fun _ => true) fun q => 2 ^ (25 - q.1) :=
    sumF_add (f := fun q => 2 ^ (25 - q.1)) hp (fun _ _ => rfl) rfl (ltB_irr p)
  rw [sumF_all, K.1, ← h1] at h2
  have h3 : 2 ^ p.1 * 2 ^ (25 - p.1) = 2 ^ 25 := by rw [← Nat.pow_add]; congr 1; omega
  rw [← h3, ← Nat.succ_mul] at h2
  exact Nat.lt_of_succ_le (Nat.le_of_mul_le_mul_right h2 (Nat.pow_pos (by decide)))
theorem num_gap {P : List Pr} {p q : Pr} (hq : q ∈ P) (h : ltB q p = true) : (num P q + 1) * 2 ^ (p.1 - q.1) ≤ num P p := by
  have hle : q.1 ≤ p.1 := by have := ltB_iff.mp h; omega
  have h1 : num P q * 2 ^ (p.1 - q.1) = sumF P (fun r => ltB r q) fun r => 2 ^ (p.1 - r.1) :=
    sumF_scale _ _ _ _ _ fun r hr c => by
      have := ltB_iff.mp c
      exact pow_split (by omega) hle
  rw [Nat.succ_mul, h1]
  exact sumF_add (f := fun r => 2 ^ (p.1 - r.1)) hq (fun r c => ltB_trans c h) h (ltB_irr q)
theorem num_apart {P : List Pr} {p q : Pr} (hp : p ∈ P) (hq : q ∈ P) (hne : p ≠ q) (hle : q.1 ≤ p.1) : num P p / 2 ^ (p.1 - q.1) ≠ num P q := by
  intro e
  rcases ltB_tri hne with h | h
  · have hl := ltB_iff.mp h
    have e1 : p.1 = q.1 := by omega
    have g := num_gap hp h
    rw [e1, Nat.sub_self, Nat.pow_zero, Nat.div_one] at e
    rw [e1, Nat.sub_self, Nat.pow_zero, Nat.mul_one] at g
    omega
  · have g := num_gap hq h
    have := (Nat.le_div_iff_mul_le (Nat.pow_pos (by decide : 0 < 2))).mpr g
    omega
/-- a pair's word -/
def word (P : List Pr) (p : Pr) : List Nat := bitsL p.1 (num P p)
theorem word_len (P : List Pr) (p : Pr) : (word P p).length = p.1 := bits_len _ _
theorem word_free {P : List Pr} (K : Kr P) {p q : Pr} (hp : p ∈ P) (hq : q ∈ P) (h : word P q <+: word P p) : p = q := by
  refine Classical.byContradiction fun hne => ?_
  have hle : q.1 ≤ p.1 := by
    have := h.length_le
    rw [word_len, word_len] at this; exact this
  obtain ⟨b, hb⟩ : ∃ b, p.1 = q.1 + b := ⟨p.1 - q.1, by omega⟩
  have e := List.prefix_iff_eq_take.mp h
  rw [word_len] at e
  unfold word at e
  rw [hb, bits_add, List.take_append_of_le_length (by rw [bits_len]; exact Nat.le_refl _), List.take_of_length_le (by rw [bits_len]; exact Nat.le_refl _)] at e
  have e2 := bits_inj _ _ _ e
  rw [Nat.mod_eq_of_lt (num_lt K hq), Nat.mod_eq_of_lt] at e2
  · refine num_apart hp hq hne hle ?_
    rw [show p.1 - q.1 = b by omega]
    exact e2.symm
  · refine Nat.div_lt_of_lt_mul ?_
    have := num_lt K hp
    rw [hb, Nat.pow_add, Nat.mul_comm] at this
    exact this
/-! ### the other bits -/
def flip (c : Nat) : Nat := 97 - c
theorem flip_flip {c : Nat} (h : c = 48 ∨ c = 49) : flip (flip c) = c := by unfold flip; omega
def turned (w : List Nat) : List Nat := w.map flip
theorem turned_turned {w : List Nat} (h : ∀ c ∈ w, c = 48 ∨ c = 49) : turned (turned w) = w := by
  unfold turned
  rw [List.map_map]
  conv => rhs; rw [← List.map_id w]
  exact List.map_congr_left fun c hc => flip_flip (h c hc)
theorem turned_01 {w : List Nat} (h : ∀ c ∈ w, c = 48 ∨ c = 49) : ∀ c ∈ turned w, c = 48 ∨ c = 49 := fun c hc => by
  obtain ⟨d, hd, rfl⟩ := List.mem_map.mp hc
  have := h d hd
  unfold flip; omega
theorem turned_free {P : List Pr} (K : Kr P) {p q : Pr} (hp : p ∈ P) (hq : q ∈ P) (h : turned (word P q) <+: turned (word P p)) : p = q := by
  refine word_free K hp hq ?_
  have := h.map flip
  rw [show (turned (word P q)).map flip = turned (turned (word P q)) from rfl, show (turned (word P p)).map flip = turned (turned (word P p)) from rfl,
    turned_turned (w := word P q) (bits_01 _ _), turned_turned (w := word P p) (bits_01 _ _)] at this
  exact this
/-! ### the counter -/
theorem num_perm {P S : List Pr} (h : S.Perm P) (p : Pr) : num S p = num P p := by
  unfold num sumF
  exact ((h.filter _).map _).sum_nat
theorem num_sorted {S A B : List Pr} {p : Pr} (h : S.Pairwise fun a b => ltB a b = true) (e : S = A ++ p :: B) : num S p = (A.map fun q => 2 ^ (p.1 - q.1)).sum := by
  subst e
  rw [List.pairwise_append] at h
  obtain ⟨_, h2, h3⟩ := h
  have h4 := (List.pairwise_cons.mp h2).1
  unfold num sumF
  congr 2
  rw [List.filter_append, List.filter_cons, ltB_irr, List.filter_eq_self.mpr fun a ha => h3 a ha p (List.mem_cons_self ..), List.filter_eq_nil_iff.mpr, if_neg (by simp), List.append_nil]
  intro b hb c
  have := ltB_iff.mp (h4 b hb)
  have := ltB_iff.mp c
  omega
def acc (A : List Pr) (l : Nat) : Nat := (A.map fun q => 2 ^ (l - q.1)).sum
theorem acc_shift {A : List Pr} {a l : Nat} (h : ∀ q ∈ A, q.1 ≤ a) (hl : a ≤ l) : acc A a * 2 ^ (l - a) = acc A l := by
  induction A with
  | nil => unfold acc; simp
  | cons q A ih =>
    have ih := ih fun r hr => h r (List.mem_cons_of_mem _ hr)
    unfold acc at *
    simp only [List.map_cons, List.sum_cons, Nat.add_mul]
    rw [ih, pow_split (h q (List.mem_cons_self ..)) hl]
theorem acc_snoc (A : List Pr) (p : Pr) : acc (A ++ [p]) p.1 = acc A p.1 + 1 := by
  unfold acc
  simp
end KR

set_option Elab.async false
set_option linter.all false
set_option maxRecDepth 100000
set_option maxHeartbeats 4000000
/-! f"{n:b}" -/
namespace PySem
open PySem.Spec PyProof.Rows Builtin
section
variable {prog : Program} {w : World} {A : Around} {E : Value → Shared → Prop} {s : Shared}
/-- the bits of a number -/
def binText (n : Nat) : Str := ⟨((Nat.toDigits 2 n).map Char.toNat).toArray⟩
theorem toDigits_ne (n : Nat) : Nat.toDigits 2 n ≠ [] := by
  intro h
  have := Nat.length_toDigits_pos (b := 2) (n := n)
  rw [h] at this
  exact absurd this (by decide)
theorem field_bin (n : Nat) : intField' { align := 62, type := some 98 } (decide (((n : Nat) : Int) < 0)) [] ((Nat.toDigits 2 ((n : Nat) : Int).natAbs).map fun c => (if (98 : Nat) == 88 then c.toUpper else c).toNat) [] 4 = binText n := by
  have hn : ¬ (((n : Nat) : Int) < 0) := by omega
  have hc : (fun c : Char => (if ((98 : Nat) == 88) = true then c.toUpper else c).toNat) = Char.toNat := by
    funext c; rfl
  rw [hc, decide_eq_false hn, Int.natAbs_natCast]
  have hd : ((Nat.toDigits 2 n).map Char.toNat).isEmpty = false := by
    cases h : Nat.toDigits 2 n with
    | nil => exact absurd h (toDigits_ne n)
    | cons _ _ => rfl
  unfold intField' binText
  simp [hd]
theorem fmt_bin {n : Nat} {t : Tok} {Q : Value → Shared → Prop} (hz : (binText n).length ≤ sizeLine) (h : ∀ tk u, Q (.str (binText n) u) { s with toks := tk }) :
    wpAny (model prog w) A (formatField (.int (n : Int) t) "b") Q E s := by
  show wpAny _ _ (holding [.int (n : Int) t] (pyFormat (.int (n : Int) t) "b")) Q E s
  refine wpAny_holding ?_
  unfold pyFormat
  refine wpAny_bind (wpAny_mkStr ?_ (by decide +kernel))
  refine wpAny_bind (m := callSpecial? (.int (n : Int) t) (Str.ofString "__format__") [.str "b" s.toks]) (wpAny_callSpecial?_slot (name := Str.ofString "__format__") (typeIs_int _ _ t) slot_int_format ?_)
  refine wpAny_call (codeAny_call_builtin slot_int_format.plain entry_int_format (slot_int_format.check _ _ _ _ _ _ _ _ (typeIs_int _ _ t) (args_int_format _ _) ?_))
  unfold Builtin.«int.__format__»
  simp only [selfAndOne, noKeywords, Int.intOfSelf, asInt?, asStr?, List.isEmpty_nil, if_true, pure_bind, bind_pure, bind_assoc, Bool.false_eq_true, if_false, show (Value.str "b" s.toks == Value.none) = false from rfl]
  refine wpAny_bind (wpAny_typeNameOf (T := "str") (typeIs_str _ _ _) (by decide) fun _ => ?_)
  rw [if_neg (by decide +kernel)]
  rw [if_neg (by decide +kernel)]
  first | refine wpAny_bind (wpAny_typeNameOfCut_int ?_) | refine wpAny_bind (wpAny_typeNameOf_int ?_)
  have hp : Builtin.Float.parseFormatSpec (Str.ofString "b").cps.toList "int" 62 = .ok { align := 62, type := some 98 } := by rfl
  rw [hp]
  dsimp only
  rw [if_pos (by decide +kernel)]
  conv => arg 3; whnf
  have hT : ∀ f : Nat → Str → Prop, f 0 (binText n) → f 0 (intField' { align := 62, type := some 98 } (decide (((n : Nat) : Int) < 0)) [] ((Nat.toDigits 2 ((n : Nat) : Int).natAbs).map fun c => (if (98 : Nat) == 88 then c.toUpper else c).toNat) [] 4) := fun f h => by rw [field_bin]; exact h
  generalize decide (((n : Nat) : Int) < 0) = neg at hT ⊢
  generalize Nat.toDigits 2 ((n : Nat) : Int).natAbs = ds at hT ⊢
  refine wpAny_bind (m := mkStr _) (wpAny_mkStr (wpAny_pure ?_) ?hs)
  case hs => exact hT (fun _ x => x.length ≤ sizeLine) hz
  dsimp only
  refine wpAny_bind (wpAny_isInstance (typeIs_str _ _ _) isSubtype_str_str (wpAny_pure ?_))
  exact hT (fun _ x => Q (.str x _) _) (h _ _)
end
end PySem
namespace L2
open PySem PySem.Spec PyProof.Rows
section
variable {X : Cx}
/-- {n:b} -/
def tFmtB (te : TE) : TE := fun σ H Q => te σ H fun x H1 => ∃ n : Nat, x = .int (n : Int) ∧ (binText n).length ≤ sizeLine ∧ Q (.str (binText n)) H1
theorem pe_fmtB {e : Expr} {te : TE} {k : Nat} {p1 p2 pos : Pos} (he : PE X e te) : PE X (.FormattedValue e (-1) (some (.JoinedStr [.Constant (.str "b") k p1] p2)) pos) (tFmtB te) := by
  refine ⟨fun pins s σ H Q I h => ?_⟩
  refine wpAny_FormattedValue_spec (thn (he.run pins s σ H _ I h) fun v s1 ⟨x, H1, I1, r1, n, ex, hz, q⟩ => ?_)
  subst ex
  obtain ⟨t, rfl⟩ := r1
  refine wpAny_JoinedStr_one (Calls.Constant_str ⟨"b", _, rfl, ?_⟩)
  exact fmt_bin hz fun tk u => ⟨.str (binText n), H1, I1.tok _, ⟨_, rfl⟩, q⟩
end
end L2

set_option Elab.async false
set_option linter.all false
set_option maxRecDepth 100000
set_option maxHeartbeats 4000000
/-! texts of bits: zfill of f"{n:b}", startswith, count, the three replaces -/
namespace KR
open PySem PySem.Spec PyProof.Rows Builtin Builtin.Str StrLaws L2
theorem core_bits : ∀ (fuel n k : Nat) (ds : List Char), 1 ≤ k → n < 2 ^ k → n < fuel → ∃ l, (Nat.toDigitsCore 2 fuel n ds).map Char.toNat = l ++ ds.map Char.toNat ∧ l.length ≤ k ∧ l ≠ [] ∧ bitsL k n = List.replicate (k - l.length) 48 ++ l
  | 0, n, k, ds, _, _, h => absurd h (Nat.not_lt_zero _)
  | fuel + 1, n, k, ds, hk, hn, hf => by
    obtain ⟨k, rfl⟩ : ∃ j, k = j + 1 := ⟨k - 1, by omega⟩
    have hd : (Nat.digitChar (n % 2)).toNat = 48 + n % 2 := by
      rcases Nat.mod_two_eq_zero_or_one n with e | e <;> rw [e] <;> rfl
    unfold Nat.toDigitsCore
    by_cases h0 : n / 2 = 0
    · refine ⟨[48 + n % 2], ?_, by simp, by simp, ?_⟩
      · simp only [h0, if_true, List.map_cons, hd]; rfl
      · show bitsL k (n / 2) ++ _ = _
        rw [h0, bits_zero]; rfl
    · simp only [h0, if_false]
      have hk2 : 1 ≤ k := by
        rcases Nat.eq_zero_or_pos k with e | e
        · subst e; exfalso; apply h0; omega
        · exact e
      have hn' : n / 2 < 2 ^ k := by rw [Nat.pow_succ] at hn; omega
      obtain ⟨l, e, hl, hne, eb⟩ := core_bits fuel (n / 2) k (Nat.digitChar (n % 2) :: ds) hk2 hn' (by omega)
      refine ⟨l ++ [48 + n % 2], ?_, by simp; omega, by simp, ?_⟩
      · rw [e, List.map_cons, hd]; simp
      · show bitsL k (n / 2) ++ _ = _
        rw [eb, List.length_append, List.append_assoc]
        congr 2
        simp
theorem bin_bits {n k : Nat} (hk : 1 ≤ k) (hn : n < 2 ^ k) : ∃ l, (binText n).cps.toList = l ∧ l.length ≤ k ∧ l ≠ [] ∧ bitsL k n = List.replicate (k - l.length) 48 ++ l := by
  obtain ⟨l, e, h⟩ := core_bits (n + 1) n k [] hk hn (Nat.lt_succ_self _)
  refine ⟨l, ?_, h⟩
  show ((Nat.toDigits 2 n).map Char.toNat).toArray.toList = l
  rw [show Nat.toDigits 2 n = Nat.toDigitsCore 2 (n + 1) n [] from rfl, e]
  simp
/-- a text of its signs -/
def txt (l : List Nat) : Str := ⟨l.toArray⟩
theorem txt_of {x : Str} {l : List Nat} (h : x.cps.toList = l) : x = txt l := by
  cases x with
  | mk a => subst h; simp [txt]
theorem txt_inj {a b : List Nat} (h : txt a = txt b) : a = b := by
  unfold txt at h
  injection h with h
  simpa using congrArg Array.toList h
theorem txt_len (l : List Nat) : (txt l).length = l.length := by simp [txt, Str.length]
theorem bin_len {n k : Nat} (hk : 1 ≤ k) (hn : n < 2 ^ k) : (binText n).length ≤ k := by
  obtain ⟨l, e, h, _⟩ := bin_bits hk hn
  rw [txt_of e, txt_len]; exact h
theorem zfill_bin {n k : Nat} (hk : 1 ≤ k) (hn : n < 2 ^ k) : Txt.zfill (binText n) (k : Int) = txt (bitsL k n) := by
  obtain ⟨l, e, hl, hne, eb⟩ := bin_bits hk hn
  have e1 := txt_of e
  rw [e1]
  unfold Txt.zfill
  rw [txt_len]
  by_cases c : (k : Int) ≤ (l.length : Int)
  · rw [if_pos c, eb, show k - l.length = 0 by omega]; rfl
  · rw [if_neg c, eb, Int.toNat_natCast]
    cases l with
    | nil => exact absurd rfl hne
    | cons a r =>
      have ha : a = 48 ∨ a = 49 := bits_01 k n a (by rw [eb]; simp)
      have hz : ∀ m, zfilled (txt (a :: r)) m = padded (txt (a :: r)) m 0 48 := fun m => by
        unfold zfilled
        have : (txt (a :: r)).cps[0]? = some a := by simp [txt]
        rw [this]
        rcases ha with rfl | rfl <;> rfl
      rw [hz]
      refine txt_of ?_
      simp [padded, txt]
theorem sw_iff {a b : List Nat} : Txt.startswith (txt a) (txt b) = true ↔ b <+: a := by
  unfold Txt.startswith Builtin.Str.subAt
  rw [Bool.and_eq_true, decide_eq_true_eq, Nat.zero_add, txt_len, txt_len]
  have e : ((txt a).cps.extract 0 b.length == (txt b).cps) = true ↔ a.take b.length = b := by
    rw [beq_iff_eq]
    constructor
    · intro h
      have := congrArg Array.toList h
      simpa [txt] using this
    · intro h
      apply Array.toList_inj.mp
      simpa [txt] using h
  rw [e, List.prefix_iff_eq_take]
  constructor
  · rintro ⟨_, h⟩; exact h.symm
  · intro h
    refine ⟨?_, h.symm⟩
    have := congrArg List.length h
    rw [List.length_take] at this
    omega
theorem count_bits {l : List Nat} (h : ∀ c ∈ l, c = 48 ∨ c = 49) : Txt.count (txt l) ⟨#[48]⟩ + Txt.count (txt l) ⟨#[49]⟩ = (l.length : Int) := by
  rw [count_cnt, count_cnt]
  show cnt 48 l.toArray.toList + cnt 49 l.toArray.toList = _
  rw [show l.toArray.toList = l by simp]
  induction l with
  | nil => rfl
  | cons a r ih =>
    have ih := ih fun c hc => h c (List.mem_cons_of_mem _ hc)
    rw [cnt_cons, cnt_cons, List.length_cons]
    rcases h a (List.mem_cons_self ..) with rfl | rfl
    · rw [if_pos rfl, if_neg (by decide)]; omega
    · rw [if_neg (by decide), if_pos rfl]; omega
theorem repl1 (c d : Nat) : ∀ l : List Nat, replL [c] [d] l = l.map fun x => if x = c then d else x
  | [] => replL_nil
  | a :: r => by
    by_cases e : a = c
    · subst e
      rw [replL_hit (by simp) (by simp)]
      simp [repl1 a d r]
    · rw [replL_miss (by simp [e])]
      simp [e, repl1 c d r]
theorem repl_txt (c d : Nat) (l : List Nat) : Txt.replace (txt l) ⟨#[c]⟩ ⟨#[d]⟩ = txt (l.map fun x => if x = c then d else x) := by
  refine txt_of ?_
  rw [replace_list (by simp [Str.length])]
  show replL [c] [d] l.toArray.toList = _
  rw [show l.toArray.toList = l by simp, repl1]
theorem turn_txt {l : List Nat} (h : ∀ c ∈ l, c = 48 ∨ c = 49) : Txt.replace (Txt.replace (Txt.replace (txt l) ⟨#[48]⟩ ⟨#[50]⟩) ⟨#[49]⟩ ⟨#[48]⟩) ⟨#[50]⟩ ⟨#[49]⟩ = txt (turned l) := by
  rw [repl_txt, repl_txt, repl_txt, List.map_map, List.map_map]
  congr 1
  refine List.map_congr_left fun c hc => ?_
  rcases h c hc with rfl | rfl <;> rfl
end KR

set_option Elab.async false
set_option linter.all false
set_option maxRecDepth 100000
set_option maxHeartbeats 4000000
/-! enumerate of a list or a tuple; max of a tuple -/
namespace PySem
open Sem (wp)
theorem enum_new1 {v : Value} {o : Obj} {J : Heap → Prop} (B : Begins v o J) :
    Meets (Builtin.«enumerate.__new__» ⟨[.type "enumerate", v], []⟩) (fun _ R s => J s.heap ∧
      R (.ok (.ret (.ref (s.heap.push o).objs.size))) { s with heap := (s.heap.push o).push { cls := .type "enumerate", data := .fields #[.none, .bool false, .ref s.heap.objs.size, rawInt 0, .none, .none] } }) :=
  .of_wp fun prog w A R st hst => by
    obtain ⟨hp, gs, dr, tk, os⟩ := st
    obtain ⟨j0, hst⟩ := hst
    have sub0 := sub_enumerate
    have begin0 : ∀ {A' : Around} {E : Value → Shared → Prop} {Q : Value → Shared → Prop}, Q (.ref hp.objs.size) ⟨hp.push o, gs, dr, tk, os⟩ → wpAny (model prog w) A' (pyIter v) Q E ⟨hp, gs, dr, tk, os⟩ :=
      fun q => B.iter prog w _ _ ⟨hp, gs, dr, tk, os⟩ _ j0 q
    wp_walk
    refine wpAny_stack_any fun below => wpAny_pure ?_
    split
    · rename_i cls _ _ _ _ _
      cases (cls == Value.type "enumerate")
      · wp_walk using begin0
        exact ⟨_, rfl, hst⟩
      · wp_walk using begin0
        exact ⟨_, rfl, hst⟩
    · wp_walk using begin0
      exact ⟨_, rfl, hst⟩
section
variable {prog : Program} {w : World} {A : Around} {E : Value → Shared → Prop} {s : Shared}
theorem enum_call1 {v : Value} {o : Obj} {J : Heap → Prop} {Q : Value → Shared → Prop} (B : Begins v o J) (j0 : J s.heap)
    (h : ∀ h', IsEnum h' (s.heap.objs.size + 1) s.heap.objs.size 0 .none → h'.get? s.heap.objs.size = some o → h'.objs.size = s.heap.objs.size + 2 →
      (∀ b u, s.heap.get? b = some u → h'.get? b = some u) → Q (.ref (s.heap.objs.size + 1)) { s with heap := h' }) :
    wpAny (model prog w) A (call (.type "enumerate") [v]) Q E s := by
  refine callType_new F.called_enumerate (by decide) (F.typeCall_enumerate_1 _) (F.newCall_enumerate_1 _) (fun obj => F.args_object_init_2 obj _) F.entry_enumerate_new (enum_new1 B) ⟨j0, ?_⟩
  have z1 : (s.heap.push o).objs.size = s.heap.objs.size + 1 := Heap.size_push ..
  show _ ∧ _
  rw [z1]
  have he : IsEnum ((s.heap.push o).push { cls := .type "enumerate", data := .fields #[.none, .bool false, .ref s.heap.objs.size, rawInt 0, .none, .none] }) (s.heap.objs.size + 1) s.heap.objs.size 0 .none := by
    have q := Heap.get?_push_size (s.heap.push o) (o := { cls := .type "enumerate", data := .fields #[.none, .bool false, .ref s.heap.objs.size, rawInt 0, .none, .none] }) rfl
    rw [z1] at q
    exact q
  exact ⟨⟨_, he, rfl⟩, h _ he (Heap.get?_push_of_some _ (Heap.get?_push_size _ B.free)) (by rw [Heap.size_push, z1]) fun b u x => Heap.get?_push_of_some _ (Heap.get?_push_of_some _ x)⟩
end
end PySem

set_option Elab.async false
set_option linter.all false
set_option maxRecDepth 100000
set_option maxHeartbeats 4000000
/-! enumerate of a tuple; a rule that reads either way -/
namespace L2
open PySem PySem.Spec PyProof.Rows
/-- a list or a tuple -/
def SqE (K : PySem.W.Frag) (H : Hp) (a : Addr) (xs : List V) : Prop := SqL K H a xs ∨ SqT K H a xs
/-- the tuple at a, its items in new pairs behind their places -/
def Itf (K : PySem.W.Frag) (a : Addr) : It :=
  ⟨fun i H => ∃ (zs : List V) (z : V), SqT K H a zs ∧ zs[i]? = some z, fun i H v H' => ∃ P z, v = .ref P ∧ H P = none ∧ H' = upd H P (.tup [.int (i : Nat), z]) ∧ ∀ zs, SqT K H a zs → zs[i]? = some z,
    fun i H => ∃ zs : List V, SqT K H a zs ∧ zs.length = i⟩
theorem turn_enumF {P : Program} {w : World} {K : PySem.W.Frag} {es : List Expr} {m : Nat} {tp : Pos} (a g it : Addr) :
    Turn P w K (.Tuple es m tp) (Itf K a) [g, it] g (fun i h => (∃ old, IsEnum h g it ((i : Nat) : Int) old) ∧ h.IsTupleIter it a i ∧ g ≠ it) where
  mem := by simp
  obj := fun i h st b hb => by
    obtain ⟨⟨old, he⟩, ⟨o, ho, hc, hd⟩, _⟩ := st
    rcases (show b = g ∨ b = it by simpa using hb) with z | z
    · subst z; exact ⟨_, he, fun v q => nomatch q⟩
    · subst z; exact ⟨o, ho, fun v q => by rw [hd] at q; cases q⟩
  keep := fun i h h' st k => by
    obtain ⟨⟨old, he⟩, hi, hne⟩ := st
    exact ⟨⟨old, k g (by simp) _ he⟩, hi.at fun o q => k it (by simp) o q, hne⟩
  item := by
    intro X eP ew eK hc i pins s σ H E Iv fpo st go
    subst eP ew eK
    obtain ⟨⟨old, he⟩, hit, hne⟩ := st
    obtain ⟨zs, z, hq, hx⟩ := go
    obtain ⟨its, rv, p, hz⟩ := Iv.tuple hq
    obtain ⟨u, hu, ru⟩ := rv.get hx
    have gl : g < s.heap.objs.size := Heap.lt_size he
    have il : it < s.heap.objs.size := by obtain ⟨_, q, _⟩ := hit; exact Heap.lt_size q
    have tu : s.heap.IsTuple a its.toArray := p
    have ai : a ≠ it := by
      rintro rfl
      obtain ⟨o, e1, c1, d1⟩ := hit
      obtain ⟨o2, e2, c2, _⟩ := tu
      rw [e1] at e2
      obtain rfl := Option.some.inj e2
      rw [c1] at c2; exact absurd c2 (by decide)
    have ga : g ≠ a := by
      rintro rfl
      obtain ⟨o2, e2, c2, _⟩ := tu
      rw [show s.heap.get? g = some _ from he] at e2
      obtain rfl := Option.some.inj e2
      exact absurd (show Value.type "enumerate" = Value.type "tuple" from c2) (by decide)
    have D := Draws.tuple (prog := X.prog) (w := X.w) (A := X.A.in1) (Iv.ok.hd hc) it a ai its.toArray
    refine wpAny_pyNext_enum_itemC D he (i := i) ⟨hit, tu⟩ (by have := (List.getElem?_eq_some_iff.mp hu).1; simpa using this) hne (by simp [hne, ga]) fun x h1 tk hx1 ho hst1 hT hsz hk => ?_
    obtain rfl : x = u := by
      have : its.toArray[i]? = some u := by simpa using hu
      rw [this] at hx1
      exact (Option.some.inj hx1).symm
    refine ⟨_, rfl, wpAny_letOwnedTupleGo_enum (s := { s with heap := h1, toks := tk + 1 }) ho fun h2 he2 sb => ?_⟩
    have hT2 := (sb.2 _ (Nat.ne_of_gt gl)).trans hT
    have nw : ObjOk X.prog X.w (upd H s.heap.objs.size (.tup [.int (i : Nat), z])) h2 s.heap.objs.size (.tup [.int (i : Nat), z]) :=
      ⟨by show 2 ≤ sizeLine; decide, [.int i tk, x], .cons ⟨_, rfl⟩ (.cons ru .nil), ⟨_, hT2, rfl, _, rfl⟩⟩
    have I1 : Inv X pins σ (upd H s.heap.objs.size (.tup [.int (i : Nat), z])) { s with heap := h2, toks := tk + 1 } :=
      Iv.turnedNew (ch := [g, it]) (fun b ob hb q => (sb.2 b (fun y => hb (by simp [y]))).trans (hk b ob (fun y => hb (by simp [y])) (fun y => hb (by simp [y])) q)) fpo (Nat.le_refl _) nw
    refine ⟨.ref s.heap.objs.size, _, I1, rfl, ⟨_, z, rfl, Iv.hok.fresh (Nat.le_refl _), rfl, fun ys hy => by rw [Iv.tuple_inj hy hq]; exact hx⟩, ⟨⟨x, ?_⟩, hst1.1.at fun o q => (sb.2 it (Ne.symm hne)).trans q, hne⟩, fun b hb => ?_⟩
    · rw [show ((i + 1 : Nat) : Int) = (i : Int) + 1 by omega]; exact he2
    · have hb' : b < s.heap.objs.size := by
        rcases (show b = g ∨ b = it by simpa using hb) with y | y
        · subst y; exact gl
        · subst y; exact il
      rw [upd_ne (Nat.ne_of_lt hb')]
      exact (fpo b hb).1
  done := by
    intro X eP ew eK hc i pins s σ H E Iv fpo st go
    subst eP ew eK
    obtain ⟨⟨old, he⟩, hit, hne⟩ := st
    obtain ⟨zs, hq, hx⟩ := go
    obtain ⟨its, rv, p, hz⟩ := Iv.tuple hq
    obtain ⟨f0, f1, f2, f3, f4, f5⟩ := fpo it (by simp)
    have tu : s.heap.IsTuple a its.toArray := p
    have ai : a ≠ it := by
      rintro rfl
      obtain ⟨o, e1, c1, d1⟩ := hit
      obtain ⟨o2, e2, c2, _⟩ := tu
      rw [e1] at e2
      obtain rfl := Option.some.inj e2
      rw [c1] at c2; exact absurd c2 (by decide)
    have D := Draws.tuple (prog := X.prog) (w := X.w) (A := X.A.in1) (Iv.ok.hd hc) it a ai its.toArray
    have hl : its.toArray.size = i := by rw [List.size_toArray, ← rv.length]; exact hx
    exact wpAny_pyNext_enum_endD D he (by rw [hl]; exact ⟨hit, tu⟩) fun h1 eb => ⟨rfl, Iv.turned (t' := s.toks) (fun b o hb q => eb b o hb q) f0 f1 f3 f4 f5⟩
  self := fun A i s Q E st h => let ⟨⟨_, he⟩, _⟩ := st; wpAny_pyIter_enum he h
def iEnumF (K : PySem.W.Frag) (ta : TA) : TI := fun σ H R => ta σ H fun vs H1 => ∃ a zs, vs = [.ref a] ∧ SqT K H1 a zs ∧ R (Itf K a) H1
theorem pi_enumF {X : Cx} {e : Expr} {ta : TA} {p pos tp : Pos} {es : List Expr} {m : Nat} (hg : Gl X "enumerate") (hm : X.mg "enumerate" = none) (ha : PA X [e] ta) (hs : starEach [e] X.env = [(false, eval e X.env)] := by rfl) :
    PI X (.Tuple es m tp) (.Call (.Name "enumerate" p) [e] [] pos) (iEnumF X.K ta) := by
  refine ⟨fun pins s σ H R Iv h => Call_ (ld_blt Iv hg hm boot_enumerate (PyProof.Rows.callWith_type1 (thn (ha.run pos pins s σ H _ Iv h) fun us s1 ⟨vs, H1, I1, r1, q1⟩ => ?_) hs rfl))⟩
  obtain ⟨a, zs, rfl, hq, q⟩ := q1
  rw [Vals.ref1 r1]
  obtain ⟨its, rv, tu, hz⟩ := I1.tuple hq
  refine enum_call1 (begins_tuple a its.toArray) (show s1.heap.IsTuple a its.toArray from tu) fun h1 he hit hsz hk => wpAny_pyIter_enum he ?_
  have I2 : Inv X pins σ H1 { s1 with heap := h1 } := I1.kept (t' := s1.toks) hk
  refine ⟨s1.heap.objs.size + 1, [s1.heap.objs.size + 1, s1.heap.objs.size], _, _, H1, rfl, I2, turn_enumF a (s1.heap.objs.size + 1) s1.heap.objs.size, ⟨⟨.none, he⟩, ⟨_, hit, rfl, rfl⟩, Nat.succ_ne_self _⟩, fun b hb => ?_, q⟩
  have hle : s1.heap.objs.size ≤ b := by
    rcases (show b = s1.heap.objs.size + 1 ∨ b = s1.heap.objs.size by simpa using hb) with z | z <;> subst z
    · exact Nat.le_add_right _ _
    · exact Nat.le_refl _
  exact I1.fpOk hle (I1.hok.fresh hle)
/-- either reading -/
theorem pi_or {X : Cx} {tg it : Expr} {u v : TI} (a : PI X tg it u) (b : PI X tg it v) : PI X tg it (fun σ H R => u σ H R ∨ v σ H R) :=
  ⟨fun pins s σ H R I h => h.elim (a.run pins s σ H R I) (b.run pins s σ H R I)⟩
theorem cr_or {X : Cx} {f : Value} {r q : List V → Hp → VK → Prop} (a : CallR X f r) (b : CallR X f q) : CallR X f (fun xs H Q => r xs H Q ∨ q xs H Q) :=
  fun pins s σ H xs us Q I rs h => h.elim (a pins s σ H xs us Q I rs) (b pins s σ H xs us Q I rs)
/-! ### max of a tuple -/
section
variable {prog : Program} {w : World} {A : Around} {E : Value → Shared → Prop} {s : Shared} {a : Addr} {its : List Value} {ns : List Int} {Q : Value → Shared → Prop}
theorem max_tup (hh : A.handled = none) (hl : s.heap.IsTuple a its.toArray) (hi : IntsAre its ns) (hne : 0 < ns.length)
    (h : ∀ h1 tk M t, (∀ b o, s.heap.get? b = some o → h1.get? b = some o) → M ∈ ns → (∀ y, y ∈ ns → y ≤ M) → Q (.int M t) { s with heap := h1, toks := tk }) : wpAny (model prog w) A (call (.builtin "max") [.ref a]) Q E s := by
  obtain ⟨xs, e⟩ := hi.allInts.items
  have hn : numsOf (intItems xs).toList = ns := by rw [← e]; exact hi.numsOf
  rw [nums_intItems] at hn
  subst hn
  rw [e] at hl
  have hsz : 0 < xs.size := by simpa using hne
  have lt : a < s.heap.objs.size := by obtain ⟨_, q, _⟩ := hl; exact Heap.lt_size q
  refine call_max_walk (wpAny_pyIter_tuple hl ⟨_, _, _, _, _, _, _, rfl, Walks.tuple (A := A.in1) hh _ a (Nat.ne_of_lt lt) (intItems xs), ⟨⟨_, Heap.get?_push_size _ rfl, rfl, rfl⟩, hl.push _⟩, fun b hb => ?_, by simpa [intItems] using hsz, CmpOf.ints_gt (numAt xs) (fun _ _ => intItems_at), fun v h1 tk hv hk => ?_⟩)
  · show b < (s.heap.push _).objs.size
    rw [Heap.size_push]
    rcases (show b = s.heap.objs.size ∨ b = a by simpa using hb) with z | z <;> subst z
    · exact Nat.lt_succ_self _
    · exact Nat.lt_succ_of_lt lt
  · have hv : (intItems xs)[argBest (fun i j => decide (numAt xs i > numAt xs j)) (xs.size - 1)]? = some v := by simpa [intItems] using hv
    obtain ⟨t, rfl⟩ := intItems_at hv
    obtain ⟨k1, k2⟩ := argBest_gt (numAt xs) (xs.size - 1)
    refine h h1 tk _ t (fun b o q => hk b o (fun hm => ?_) (Heap.get?_push_of_some _ q)) ?_ fun y hy => ?_
    · have : b = s.heap.objs.size := by simpa using hm
      exact absurd (this ▸ Heap.lt_size q) (Nat.lt_irrefl _)
    · rw [numAt_eq]; exact PySem.getD_mem (by rw [List.length_map, Array.length_toList]; omega)
    · obtain ⟨j, hj, rfl⟩ := mem_getD hy
      rw [List.length_map, Array.length_toList] at hj
      rw [← numAt_eq]; exact k2 j (by omega)
end
def rMaxT (K : PySem.W.Frag) : List V → Hp → VK → Prop := fun vs H Q => ∃ (a : Addr) (ns : List Int), vs = [V.ref a] ∧ SqT K H a (ns.map V.int) ∧ 0 < ns.length ∧ ∀ m, m ∈ ns → (∀ y, y ∈ ns → y ≤ m) → Q (.int m) H
theorem cr_maxT {X : Cx} (hc : X.calm = true) : CallR X (.builtin "max") (rMaxT X.K) := by
  intro pins s σ H vs us Q Iv r h
  obtain ⟨a, ns, rfl, hs, hne, q⟩ := h
  obtain ⟨its, rv, tu, _⟩ := Iv.tuple hs
  rw [Vals.ref1 r]
  exact max_tup (Iv.ok.hd hc) (show s.heap.IsTuple a its.toArray from tu) rv.ints hne fun h1 tk m t hk h1' h2 => ⟨.int _, H, Iv.kept hk, ⟨_, rfl⟩, q m h1' h2⟩
end L2

set_option Elab.async false
set_option linter.all false
set_option maxRecDepth 100000
set_option maxHeartbeats 4000000
/-! x == y, x != y: x an instance whose class has an own == (answers any flag) and no own != -/
namespace PySem.W
open PySem PySem.Spec PyProof.Rows Builtin
section
variable {prog : Program} {w : World} {A : Around} {E : Value → Shared → Prop} {s : Shared} {K : Frag} {x C f : Addr} {ox : Obj} {od : Option Obj} {b tb : Value}
theorem objNe_run {Q : Fin → Shared → Prop} (X : K.In s.heap) (I : InstAt s.heap x ox C od) (he : findIn K (.ref C) "__eq__" = some (some (.ref f))) (hf : isFn K (.ref f) = true) (hu : A.units < cLine)
    (h : wpAny (model prog w) A (call (.ref f) [.ref x, b]) (fun v s' => ∃ r, v = .bool r ∧ Q (.done (.ret (.bool (!r)))) s') E s) :
    wpAny (model prog w) A (Builtin.«object.__ne__» ⟨[.ref x, b], []⟩) Q E s := by
  unfold Builtin.«object.__ne__»
  repeat (first
    | with_reducible refine wpAny_cRoomFor hu ?_
    | (refine wpAny_bind (m := callSpecialIfBound? (.ref x) (Str.ofString "__eq__") [b])
        (ifBound_K X I he hf (wpAny_mono h (fun v s1 hv => by
          obtain ⟨r, rfl, q⟩ := hv
          repeat (first | exact q | exact wpAny_pure q | exact wpAny_truthy_bool q | (refine wpAny_bind (m := truthy (.bool _)) (wpAny_truthy_bool ?_)) | wp_step)) fun _ _ e => e)))
    | wp_step)
theorem tryNe {Q : Option Value → Shared → Prop} (X : K.In s.heap) (I : InstAt s.heap x ox C od) (hs : findIn K (.ref C) "__ne__" = some (some (.builtin "object.__ne__"))) (he : findIn K (.ref C) "__eq__" = some (some (.ref f))) (hf : isFn K (.ref f) = true)
    (ho : subIn K (.ref C) (.type "object") = some true) (hu : A.units + 1 < cLine)
    (h : wpAny (model prog w) A.in1 (call (.ref f) [.ref x, b]) (fun v s' => ∃ r, v = .bool r ∧ Q (some (.bool (!r))) s') E s) : wpAny (model prog w) A (tryCompare (.ref x) "__ne__" b) Q E s := by
  have S := F.cmp_object.ne
  have isI : Looks (model prog w) s.heap (isInstance (.ref x) (.type "object")) true := I.type.andThen (looks_subIn X ho)
  unfold tryCompare
  simp only [callSpecialIfBound?, bindSpecialIfBound?]
  refine wpAny_bind (wpAny_holding (wpAny_bind (wpAny_bind (wpAny_bind (I.type.here ((looks_findIn X hs).here ?_))))))
  simp only [S.bind]
  refine wpAny_bind (wpAny_askSetting (wpAny_ite ?_))
  have fin : wpAny (model prog w) A (call (.builtin "object.__ne__") ([.ref x] ++ [b])) (fun v s' => ∃ r, v = .bool r ∧ Q (some (.bool r)) s') E s := by
    refine wpAny_call (codeAny_call_builtin S.plain F.cmpEntry_ne (check_slot F.cmpKind_ne F.cmpSplit_ne isI (F.cmpArgs_ne _ _) (objNe_run (A := A.in1) X I he hf hu (wpAny_mono h (fun v s1 hv => ?_) fun _ _ e => e))))
    obtain ⟨r, e, q⟩ := hv
    exact ⟨r, e, ⟨_, rfl, q⟩⟩
  have fin2 : wpAny (model prog w) A (call (.builtin "object.__ne__") ([.ref x] ++ [b]) >>= fun v => pure (some v)) (fun r s' => ∃ v, r = some (.bool v) ∧ Q (some (.bool v)) s') E s :=
    wpAny_bind (wpAny_mono fin (fun v s1 ⟨r, e, q⟩ => by subst e; exact wpAny_pure ⟨_, rfl, q⟩) fun _ _ e => e)
  have last : wpAny (model prog w) A (call (.builtin "object.__ne__") ([.ref x] ++ [b]) >>= fun v => pure (some v)) (fun r s' => wpAny (model prog w) A (match r with
      | some Value.notImplemented => pure none
      | none => pure none
      | some v => pure (some v)) Q E s') E s := wpAny_mono fin2 (fun r s1 ⟨v, e, q⟩ => by subst e; exact wpAny_pure q) fun _ _ e => e
  split
  · refine wpAny_bind (wpAny_pure (wpAny_pure ?_))
    exact last
  · refine wpAny_tryCatch (wpAny_bind (wpAny_pure (wpAny_pure ?_)))
    exact last
end
end PySem.W

set_option Elab.async false
set_option linter.all false
set_option maxRecDepth 100000
set_option maxHeartbeats 4000000
/-! the operators == and != of such a class -/
namespace L2
open PySem PySem.Spec PyProof.Rows SlX
/-- what a rich comparison sees of the other side: an instance, a tuple -/
def BTy (K : PySem.W.Frag) (H : Hp) (y : V) (tb : Value) : Prop := (∃ b dy gs C', y = .ref b ∧ H b = some (.ins C' dy gs) ∧ tb = .ref C') ∨ (∃ b zs, y = .ref b ∧ SqT K H b zs ∧ tb = .type "tuple")
section
variable {X : Cx} {CX : CXT} {pins : List (Addr × Obj)} {σ : L2.St} {H : Hp} {s : Shared} {C g : Addr} {n : Nat} {sp : Sp} {E : XK} {y : V} {u tb : Value}
theorem BTy.looks (h : BTy X.K H y tb) (Iv : Inv X pins σ H s) (r : RelV y u) : PySem.W.Looks (model X.prog X.w) s.heap (typeOf u) tb := by
  rcases h with ⟨b, dy, gs, C', rfl, hb, rfl⟩ | ⟨b, zs, rfl, hb, rfl⟩
  · cases (show u = Value.ref b from r)
    obtain ⟨mB, J, _⟩ := ins_get Iv.hok hb
    obtain ⟨od, J, _⟩ := J.look
    exact J.type
  · cases (show u = Value.ref b from r)
    obtain ⟨its, rv, tu, _⟩ := Iv.tuple hb
    obtain ⟨o, e, c, _⟩ := (show s.heap.IsTuple b its.toArray from tu)
    exact fun A Q E s' k q => wpAny_typeOf_ref (k _ _ e) (by rw [c]; exact q)
def rEqI (K : PySem.W.Frag) (C : Addr) (sp : Sp) (E : XK) : R2 := fun x y H Q => ∃ a dx fs tb, x = .ref a ∧ H a = some (.ins C dx fs) ∧ BTy K H y tb ∧ PySem.W.notFirst K C tb = true ∧ sp [x, y] H Q E
theorem op_eqI (hs : PySem.W.findIn X.K (.ref C) "__eq__" = some (some (.ref g))) (hf : PySem.W.isFn X.K (.ref g) = true) (F : FnR X.prog X.w X.K X.mg X.base CX n g sp) (hr : Room n X.A) (hx : Passes CX X E) : OpR X (compareOp .Eq) (rEqI X.K C sp E) := by
  intro pins s σ H x y v u Q Iv rx ry h
  obtain ⟨a, dx, fs, tb, rfl, ha, ht, hn, q⟩ := h
  cases (show v = Value.ref a from rx)
  obtain ⟨mA, J, _⟩ := ins_get Iv.hok ha
  obtain ⟨od, J, _⟩ := J.look
  obtain ⟨m, hF⟩ := Iv.fr
  show wpAny _ _ (richCompare .Eq (.ref a) u) _ _ _
  refine PySem.W.cmp_K (op := .Eq) (tb := tb) hr.units0 hF Iv.ok.mod.kin J (ht.looks Iv ry) hn hs hf ?_
  refine wpAny_mono (wpAny_call (run_fnR (us := [.ref a, u]) (vs := [.ref a, y]) F hr hx Iv (.cons rfl (.cons ry .nil)) q)) (fun w1 s1 z => ?_) fun _ _ x => x
  obtain ⟨z1, H1, I1, rz, qz⟩ := z
  exact cmpback rz ⟨z1, H1, I1, rz, qz⟩
def rNeI (K : PySem.W.Frag) (C : Addr) (sp : Sp) (E : XK) : R2 := fun x y H Q => ∃ a dx fs tb, x = .ref a ∧ H a = some (.ins C dx fs) ∧ BTy K H y tb ∧ PySem.W.notFirst K C tb = true ∧ sp [x, y] H (fun v H1 => ∃ b, v = .bl b ∧ Q (.bl (!b)) H1) E
theorem op_neI (hN : PySem.W.findIn X.K (.ref C) "__ne__" = some (some (.builtin "object.__ne__"))) (hs : PySem.W.findIn X.K (.ref C) "__eq__" = some (some (.ref g))) (hf : PySem.W.isFn X.K (.ref g) = true) (ho : PySem.W.subIn X.K (.ref C) (.type "object") = some true)
    (F : FnR X.prog X.w X.K X.mg X.base CX n g sp) (hr : Room (n + 1) X.A) (hx : Passes CX X E) : OpR X (compareOp .NotEq) (rNeI X.K C sp E) := by
  intro pins s σ H x y v u Q Iv rx ry h
  obtain ⟨a, dx, fs, tb, rfl, ha, ht, hn, q⟩ := h
  cases (show v = Value.ref a from rx)
  obtain ⟨mA, J, _⟩ := ins_get Iv.hok ha
  obtain ⟨od, J, _⟩ := J.look
  have hr1 : Room n X.A.in1 := Room.in1 hr
  have hb := ht.looks Iv ry
  have one : wpAny (model X.prog X.w) X.A (tryCompare (.ref a) "__ne__" u) (fun r s1 => ∃ b, r = some (.bool b) ∧ EP X pins σ Q (.bool b) s1) X.xe s := by
    refine PySem.W.tryNe Iv.kIn J hN hs hf ho (by have := hr1.units0; exact this) ?_
    refine wpAny_mono (wpAny_call (run_at (us := [.ref a, u]) (ws := [.ref a, y]) F hr1 Iv.env0.in1 hx Iv (.cons rfl (.cons ry .nil)) q)) (fun w1 s1 z => ?_) fun _ _ x => x
    obtain ⟨z1, H1, I1, rz, b, e, qz⟩ := z
    subst e
    cases (show w1 = Value.bool b from rz)
    exact ⟨b, rfl, ⟨_, rfl, .bl (!b), H1, I1, rfl, qz⟩⟩
  show wpAny _ _ (richCompare .NotEq (.ref a) u) _ _ _
  unfold richCompare
  simp only [oneThing_ref]
  refine wpAny_holding (wpAny_bind (wpAny_cRoomFor hr.units0 ?_))
  rw [cmpInfo_NotEq]
  dsimp only
  refine wpAny_bind (J.type.here (wpAny_bind (hb.here ?_)))
  have two : wpAny (model X.prog X.w) X.A (tryCompare (.ref a) "__ne__" u) (fun r s1 => ∃ b, r = some (.bool b) ∧ EP X pins σ Q (.bool b) s1) X.xe s := one
  split
  · rename_i q0
    have e : PySem.W.subIn X.K tb (.ref C) = some false := by
      rcases Bool.or_eq_true_iff.mp hn with e | e
      · rw [beq_iff_eq.mp e] at q0; simp at q0
      · exact beq_iff_eq.mp e
    refine wpAny_bind ((PySem.W.looks_subIn Iv.kIn e).here ?_)
    simp only [Bool.false_eq_true, if_false]
    refine wpAny_bind (wpAny_mono two (fun r s1 z => ?_) fun _ _ e => e)
    obtain ⟨b, rfl, hq⟩ := z
    exact wpAny_pure hq
  · refine wpAny_bind (wpAny_pure ?_)
    simp only [Bool.false_eq_true, if_false]
    refine wpAny_bind (wpAny_mono two (fun r s1 z => ?_) fun _ _ e => e)
    obtain ⟨b, rfl, hq⟩ := z
    exact wpAny_pure hq
end
end L2

set_option Elab.async false
set_option linter.all false
set_option maxRecDepth 100000
set_option maxHeartbeats 4000000
/-! one token is out: kept through a for over range(c) and a comprehension (e.replace of written texts asks for it) -/
namespace L2
open PySem PySem.Spec PyProof.Rows
section
variable {α : Type} {t : Sem α} {M : Model} {A : Around} {E E2 : Value → Shared → Prop} {s : Shared} {Q Q2 : α → Shared → Prop}
theorem thk (one : 1 ≤ s.toks) (h : wpAny M A t Q E s) (k : ∀ a s1, 1 ≤ s1.toks → Q a s1 → Q2 a s1) : wpAny M A t Q2 E s :=
  wpAny_mono (wpAny_toks_of one h) (fun a s1 q => k a s1 q.1 q.2) fun _ _ z => z.2
theorem thkF (one : 1 ≤ s.toks) (h : wpAny M A t Q (fun _ _ => False) s) (k : ∀ a s1, 1 ≤ s1.toks → Q a s1 → Q2 a s1) : wpAny M A t Q2 E2 s :=
  wpAny_mono (wpAny_toks_of one h) (fun a s1 q => k a s1 q.1 q.2) fun _ _ z => False.elim z.2
end
section
variable {X : Cx}
/-- what a for asks of its turns -/
def tForR (g : TG) (tb : TS) (D : Ends) (σ : St) : It → Hp → Prop := fun J G => ∃ W : Nat → Nat → St → Hp → Prop, (∃ m, W 0 m σ G) ∧ ∀ i m ρ G1, W i m ρ G1 →
  (J.stop i G1 ∧ D.nx ρ G1) ∨ (J.go i G1 ∧ ∃ N : St → Hp → Prop, (∀ ρ1 G2, N ρ1 G2 → ∃ m1, m1 < m ∧ W (i + 1) m1 ρ1 G2) ∧
    ∀ x G2, J.yld i G1 x G2 → g x ρ G2 fun ρ2 G3 => tb { D with nx := N, ct := N, bk := D.nx } ρ2 G3)
/-- for x in range(c): the written c is an int that is made -/
theorem ps_forT {c : Int} {j : Nat} {cp p pos fpos : Pos} {tg : Expr} {body : List Stmt} {g : TG} {tb : TS} (own : PassesOwn (model X.prog X.w) X.A X.env X.xe) (calm : X.calm = true) (hg : Gl X "range") (hm : X.mg "range" = none)
    (gg : PG X tg g) (hb : PSsT X body tb) (c0 : 0 ≤ c) (c1 : c < 2 ^ 62) (hs : starEach [.Constant (.int c) j cp] X.env = [(false, eval (.Constant (.int c) j cp) X.env)] := by rfl)
    (fo : ∀ x, foldedSetIterable (.Call (.Name "range" p) [.Constant (.int c) j cp] [] pos) X.env x = pure x := by intro _; rfl) :
    PS X (.For tg (.Call (.Name "range" p) [.Constant (.int c) j cp] [] pos) body [] fpos) (tFor (fun _ H R => R (Itr 0 c.toNat) H) g tb) := by
  refine ⟨fun pins s σ H D Iv h => ?_⟩
  have ev : ∀ R : It → Hp → Prop, R (Itr 0 c.toNat) H → wpAny (model X.prog X.w) X.A (eval (.Call (.Name "range" p) [.Constant (.int c) j cp] [] pos) X.env) (fun v s1 => 1 ≤ s1.toks ∧ wpAny (model X.prog X.w) X.A (pyIter v) (PIE X pins σ tg R) X.xe s1) X.xe s := fun R hR => by
    refine Call_ (ld_blt Iv hg hm boot_range (PyProof.Rows.callWith_type1 ?_ hs rfl))
    rw [hs]
    refine Calls.spliced_cons (wpAny_Constant_int (k := j) (pos := cp) (Calls.spliced_nil ?_))
    refine thk (by show 1 ≤ s.toks + 1; omega) (call_range_1 (range_it (Iv.tok _) (by omega) (by omega) (by omega) c1 ?_)) fun v s1 o q => ⟨o, q⟩
    have e : (c - 0).toNat = c.toNat := by omega
    rw [e]
    exact hR
  have rdy : tForR g tb D σ (Itr 0 c.toNat) H := h
  refine wpAny_For (thn (ev (tForR g tb D σ) rdy) fun v s1 ⟨o1, h1⟩ => thk o1 h1 fun itv s2 o2 h2 => ?_) fo
  obtain ⟨it, fp, tn, J, H2, rfl, I2, T, st2, f2, W, ⟨m0, w0⟩, turn⟩ := h2
  have stat : ∀ {G : Hp}, (∀ b ∈ fp, G b = none) → ∀ b ∈ fp, FpOk X pins G b := fun z b hb => ⟨z b hb, (f2 b hb).2⟩
  refine codeAny_forLoop_any (fun n s' => 1 ≤ s'.toks ∧ ∃ i ρ G, Inv X pins ρ G s' ∧ tn i s'.heap ∧ (∀ b ∈ fp, G b = none) ∧ W i n ρ G) ?_ m0 ⟨o2, 0, σ, H2, I2, st2, fun b hb => (f2 b hb).1, w0⟩
  rintro n s3 ⟨o3, i, σ3, H3, I3, st3, z3, w3⟩
  rcases turn i n σ3 H3 w3 with ⟨stop, fin⟩ | ⟨go, N, hN, step⟩
  · refine wpAny_passesOwn own (thn (T.done X rfl rfl rfl calm i pins s3 σ3 H3 X.xe I3 (stat z3) st3 stop) fun r s4 ⟨hr, I4⟩ => ?_)
    subst hr
    exact wpAny_execs_nil ⟨σ3, H3, I4, fin⟩
  · refine wpAny_passesOwn own (thk o3 (T.item X rfl rfl rfl calm i pins s3 σ3 H3 X.xe I3 (stat z3) st3 go) fun r s4 o4 ⟨u, hr, h4⟩ => ?_)
    subst hr
    refine wpAny_passesOwn own (thk o4 h4 fun _ s5 o5 ⟨x, H5, I5, r5, y5, st5, z5⟩ => ?_)
    have Ip := I5.pinned (stat z5) (T.obj _ _ st5)
    refine wpAny_passesOwn own (thk o5 (gg.run _ s5 σ3 H5 x u _ Ip r5 (step x H5 y5)) fun _ s6 o6 ⟨σ6, H6, I6, q6⟩ => ?_)
    refine wpAny_passesOwn own (thk o6 (hb _ s6 σ6 H6 _ o6 I6 q6) fun f s7 o7 q7 => ?_)
    have pinned : ∀ {ρ : St} {G : Hp}, Inv X (pins ++ pinsAt fp s5.heap) ρ G s7 → ∀ b ∈ fp, ∀ o, s5.heap.get? b = some o → s7.heap.get? b = some o ∧ G b = none := fun {ρ G} I7 b hb o e =>
      let z := I7.pin (b, o) (List.mem_append_right _ (List.mem_append_right _ (mem_pinsAt hb e)))
      ⟨z.1, z.2.1⟩
    have again : ∀ {ρ : St} {G : Hp}, Inv X (pins ++ pinsAt fp s5.heap) ρ G s7 → N ρ G → ∃ m, m < n ∧ 1 ≤ s7.toks ∧ ∃ i ρ G, Inv X pins ρ G s7 ∧ tn i s7.heap ∧ (∀ b ∈ fp, G b = none) ∧ W i m ρ G := fun {ρ G} I7 n7 => by
      obtain ⟨m1, lt, w7⟩ := hN ρ G n7
      refine ⟨m1, lt, o7, i + 1, ρ, G, I7.unpinned, T.keep _ _ _ st5 fun b hb o e => (pinned I7 b hb o e).1, fun b hb => ?_, w7⟩
      obtain ⟨o, e, _⟩ := T.obj _ _ st5 b hb
      exact (pinned I7 b hb o e).2
    cases f with
    | next => obtain ⟨ρ, G, I7, n7⟩ := q7; exact again I7 n7
    | cont => obtain ⟨ρ, G, I7, n7⟩ := q7; exact again I7 n7
    | brk => obtain ⟨ρ, G, I7, fin⟩ := q7; exact ⟨ρ, G, I7.unpinned, fin⟩
    | ret v => obtain ⟨x7, ρ, G, I7, r7, fin⟩ := q7; exact ⟨x7, ρ, G, I7.unpinned, r7, fin⟩
/-- name = [elt for target in iter], elt where one token is out -/
theorem pst_lcT {i : Nat} {y : Str} {py : Pos} {elt tg iter : Expr} {sco : Scope} {own : List (Str × Nat)} {pos spos : Pos} {wi : TI} {g : TG} {te : TE} (calm : X.calm = true) (nd : X.N.Nodup) (hy : X.N[i]? = some y) (hyl : X.env.scope.names.lookup y = some .local)
    (sw : swapsWith (.ListComp elt [⟨tg, iter, [], 0⟩] sco pos) (some (.Name y py)) spos.line X.env = pure true) (hi : PI X tg iter wi) (ok : BlkOk X.N X.env.scope sco own)
    (gg : ∀ (s : Shared) (H : Hp) (C : Addr) (cl : List (Str × Addr)) (fp : List Addr), PG (X.blk s H sco (compEnvC sco cl C X.env) fp) tg g)
    (ee : ∀ (s : Shared) (H : Hp) (C : Addr) (cl : List (Str × Addr)) (fp : List Addr), PET (X.blk s H sco (compEnvC sco cl C X.env) fp) elt te) (fo : ∀ x, foldedSetIterable iter X.env x = pure x := by intro _; rfl) :
    PST X (.Assign [.Name y py] (.ListComp elt [⟨tg, iter, [], 0⟩] sco pos) spos) (tAsg (tLc wi g tYes te (own.map (·.2))) (gName i)) := by
  intro pins s σ H D one Iv h
  rw [exec_Assign_Name_used _ _ _ _ sw]
  refine wpAny_bind (wpAny_standAt (wpAny_bind ?_))
  show wpAny _ X.A (do let _ ← comprehension (.ListComp elt [⟨tg, iter, [], 0⟩] sco pos) sco X.env (firstIterPos [⟨tg, iter, [], 0⟩] pos) (newList []) false (eval iter X.env) (some (assign (.Name y py) X.env))) _ _ s
  have h : tLc wi g tYes te (own.map (·.2)) σ H (fun x H1 => gName i x σ H1 D.nx) := h
  refine wpAny_bind (thn (Q := fun _ s1 => SP X pins D .next s1) ?_ fun _ s1 q => wpAny_pure (wpAny_pure q))
  have hfree : ∀ y ∈ sco.names, y.2 = .free → ∃ c, X.env.cells.lookup y.1 = some c := fun y hy e => (ok.free y hy e).elim (fun k => Iv.ok.has _ (.inl k)) fun k => Iv.ok.has _ (.inr k)
  refine wpAny_comprehension_free (use := some (assign (.Name y py) X.env)) rfl fo (closure_ok hfree) ok.kind (fun z hz e => by rw [ok.uniq z hz, e]) (thk one (hi.run pins s σ H _ Iv h) fun xv s1 o1 hx => thk o1 hx fun itv s2 o2 h2 => ?_)
  obtain ⟨it, fp, tn, J, H2, rfl, I2, T, st2, f2, q⟩ := h2
  refine wpAny_newObj_type (newEnv_comp ?_) (by show 0 ≤ sizeLine; decide)
  generalize hL : s2.heap.objs.size = L
  have nL : H2 L = none := I2.hok.fresh (Nat.le_of_eq hL)
  obtain ⟨W, ⟨m0, w0⟩, turn⟩ := q L nL
  generalize hs3 : ({ s2 with heap := s2.heap.push { cls := .type "list", data := .seq ([] : List Value).toArray } } : Shared) = s3
  have o3 : 1 ≤ s3.toks := by rw [← hs3]; exact o2
  have g3 : s3.heap = s2.heap.push { cls := .type "list", data := .seq ([] : List Value).toArray } := by rw [← hs3]
  have I3 : Inv X pins σ (upd H2 L (.lst [])) s3 := by
    rw [← hs3]
    refine I2.laid (t' := s2.toks) (fun b o e => Heap.get?_push_of_some _ e) (Nat.le_of_eq hL) ⟨Nat.zero_le _, [], 0, .nil, ?_⟩
    rw [← hL]; exact Heap.get?_push_size _ rfl
  have lt2 : ∀ b ∈ fp, b < s2.heap.objs.size := fun b hb => let ⟨_, e, _⟩ := T.obj _ _ st2 b hb; Heap.lt_size e
  have f3 : ∀ b ∈ fp, FpOk X pins (upd H2 L (.lst [])) b ∧ b < s3.heap.objs.size := fun b hb => by
    refine ⟨⟨?_, (f2 b hb).2⟩, by rw [g3, Heap.size_push]; exact Nat.lt_succ_of_lt (lt2 b hb)⟩
    rw [upd_ne (by rw [← hL]; exact Nat.ne_of_lt (lt2 b hb))]
    exact (f2 b hb).1
  have st3 : tn 0 s3.heap := T.keep _ _ _ st2 fun b _ o e => by rw [g3]; exact Heap.get?_push_of_some _ e
  have I4 := block_start I3 ok nd f3
  have pg := gg s3 (upd H2 L (.lst [])) s3.heap.objs.size (cellsFrom (s3.heap.objs.size + 1) sco.names (cloFrom X.env.cells sco.names [])) fp
  have pe := ee s3 (upd H2 L (.lst [])) s3.heap.objs.size (cellsFrom (s3.heap.objs.size + 1) sco.names (cloFrom X.env.cells sco.names [])) fp
  show codeAny _ _ (.compStart (.ListComp elt [⟨tg, iter, [], 0⟩] sco pos) 0 (.ref it) (.ref L) (compEnvC sco (cellsFrom (s3.heap.objs.size + 1) sco.names (cloFrom X.env.cells sco.names [])) s3.heap.objs.size X.env)) (compPost (model X.prog X.w) X.A X.xe (some (assign (.Name y py) X.env)) (fun _ s1 => SP X pins D .next s1) (.ref L) s3.heap.objs.size) { s3 with heap := pushCells (s3.heap.push { cls := .type "dict", data := .dict #[] }) sco.names }
  have z3 : ∀ b ∈ fp, (upd H2 L (.lst [])) b = none := fun b hb => (f3 b hb).1.1
  generalize hce : compEnvC sco (cellsFrom (s3.heap.objs.size + 1) sco.names (cloFrom X.env.cells sco.names [])) s3.heap.objs.size X.env = ce at I4 pg pe ⊢
  have cl : ce.locals = s3.heap.objs.size := by subst hce; rfl
  generalize hH3 : upd H2 L (.lst []) = H3 at I3 I4 pg pe w0 z3 f3
  generalize hs4 : ({ s3 with heap := pushCells (s3.heap.push { cls := .type "dict", data := .dict #[] }) sco.names } : Shared) = s4 at I4 ⊢
  have o4 : 1 ≤ s4.toks := by rw [← hs4]; exact o3
  have st4 : tn 0 s4.heap := T.keep _ _ _ st3 fun b _ o e => by rw [← hs4]; exact pushCells_keeps _ _ _ _ (Heap.get?_push_of_some _ e)
  have stat : ∀ {ρ : St} {G : Hp} {s' : Shared}, Inv (X.blk s3 H3 sco ce fp) [] ρ G s' → (∀ b ∈ fp, G b = none) → ∀ b ∈ fp, FpOk (X.blk s3 H3 sco ce fp) [] G b := fun {ρ G s'} I' z b hb =>
    ⟨z b hb, (I'.ok.exf b hb).1, I'.ok.exfs b hb, .inl hb, fun x c e => (I'.ok.exf b hb).2 x c e, fun p hp => absurd (show p ∈ ([] : List (Addr × Obj)) ++ [] from hp) (by simp)⟩
  have loop : codeAny (model X.prog X.w) X.A (.compLoop (.ListComp elt [⟨tg, iter, [], 0⟩] sco pos) 0 (.ref it) (.ref L) ce) (compPost (model X.prog X.w) X.A X.xe (some (assign (.Name y py) X.env)) (fun _ s1 => SP X pins D .next s1) (.ref L) s3.heap.objs.size) s4 := by
    refine compLoop_any (fun n s' => 1 ≤ s'.toks ∧ ∃ i G, Inv (X.blk s3 H3 sco ce fp) [] (wipe σ (own.map (·.2))) G s' ∧ tn i s'.heap ∧ (∀ b ∈ fp, G b = none) ∧ W i n G) ?_ m0 ⟨o4, 0, H3, I4, st4, z3, w0⟩
    rintro n s5 ⟨o5, k, H5, I5, st5, z5, w5⟩
    rcases turn k n H5 w5 with ⟨stop, fin⟩ | ⟨go, Nx, hNx, step⟩
    · refine thnF (T.done (X.blk s3 H3 sco ce fp) rfl rfl rfl calm k [] s5 _ H5 (fun _ _ => False) I5 (stat I5 z5) st5 stop) fun r s6 ⟨hr, I6⟩ => ?_
      subst hr
      have I7 : Inv X pins σ H5 s6 := I3.call' (ch := fp) I6.os I6.base I6.hok I6.bare fun b hb => ⟨(f3 b hb).1.2.2.2.1, (f3 b hb).1.2.1, (f3 b hb).1.2.2.2.2.1, (f3 b hb).1.2.2.2.2.2⟩
      have nC : H5 s3.heap.objs.size = none := by rw [← cl]; exact I6.free
      obtain ⟨m, ns, _⟩ := I6.loc
      have ns : s6.heap.Ns ce.locals m := ns
      rw [cl] at ns
      have f := I3.fpOk (Nat.le_refl _) nC
      show wpAny _ _ (assign (.Name y py) X.env (.ref L)) _ _ _
      refine wpAny_assign_Name (store_ok2 (v := V.ref L) I7 nd hy (.inl hyl) rfl (fun s8 I8 ⟨a, sb, ha⟩ => ?_) (.inr hyl))
      obtain ⟨f0, f1, f2, f3, f4, f5⟩ := f
      have ca : s3.heap.objs.size ≠ a := ha.elim (fun z => by rw [z]; exact f1) fun z e => f4 y a z e.symm
      exact ⟨m, ns.sameBut sb ca, fun h3 sb3 => ⟨_, H5, I8.turned (t' := s8.toks) (fun b o hb e => (sb3.2 b hb).trans e) f0 f1 f3 f4 f5, fin⟩⟩
    · refine thkF o5 (T.item (X.blk s3 H3 sco ce fp) rfl rfl rfl calm k [] s5 _ H5 (fun _ _ => False) I5 (stat I5 z5) st5 go) fun r s6 o6 ⟨u, hr, h6⟩ => ?_
      subst hr
      refine thkF o6 h6 fun _ s7 o7 ⟨x, H7, I7, r7, y7, st7, z7⟩ => ?_
      have Ip := I7.pinned (stat I7 z7) (T.obj _ _ st7)
      refine thkF o7 (pg.run _ s7 _ H7 x u _ Ip r7 (step x H7 y7)) fun _ s8 o8 ⟨σ8, H8, I8, hw8, q8⟩ => ?_
      have q8 : te σ8 H8 fun y H4 => ∃ acc, H4 L = some (.lst acc) ∧ acc.length < sizeLine ∧ Nx (upd H4 L (.lst (acc ++ [y]))) := q8
      refine wpAny_tests_nil ?_
      refine thkF o8 (pe _ s8 σ8 H8 _ o8 I8 q8) fun z s10 o10 ⟨yv, H10, I10, r10, acc, hD10, hz10, nx⟩ => ?_
      refine thkF o10 (app_ok (X := X.blk s3 H3 sco ce fp) (Q := fun _ s11 => Inv (X.blk s3 H3 sco ce fp) ([] ++ pinsAt fp s7.heap) σ8 (upd H10 L (.lst (acc ++ [yv]))) s11) I10 hD10 hz10 r10 fun s11 I11 => I11) fun _ s11 o11 I11 => ?_
      obtain ⟨m1, lt, w1⟩ := hNx _ nx
      have pinned : ∀ b ∈ fp, ∀ o, s7.heap.get? b = some o → s11.heap.get? b = some o ∧ (upd H10 L (.lst (acc ++ [yv]))) b = none := fun b hb o e =>
        let z := I11.pin (b, o) (List.mem_append_right _ (List.mem_append_right _ (mem_pinsAt hb e)))
        ⟨z.1, z.2.1⟩
      have len : (wipe σ (own.map (·.2))).length = σ8.length := by rw [← hw8, wipe_length]
      refine ⟨m1, lt, o11, k + 1, _, (I11.unpinned (pins := [])).weak len (fun j v e => ?_), T.keep _ _ _ st7 fun b hb o e => (pinned b hb o e).1, fun b hb => ?_, w1⟩
      · rw [← hw8] at e
        exact (wipe_some e).1
      · obtain ⟨o, e, _⟩ := T.obj _ _ st7 b hb
        exact (pinned b hb o e).2
  exact codeAny_compStart_list loop (T.self X.A 0 _ _ _ st4 loop)
end
end L2

set_option Elab.async false
set_option linter.all false
set_option maxRecDepth 100000
set_option maxHeartbeats 4000000
/-! loops over what is a list or a tuple, as it stood when the loop began -/
namespace L2
open PySem PySem.Spec PyProof.Rows
theorem SqE.same {K : PySem.W.Frag} {H G : Hp} {a : Addr} {xs : List V} (h : SqE K H a xs) (s : Same H G) : SqE K G a xs := h.elim (fun h => .inl (s.seq h)) fun h => .inr (SqT.ext h s)
theorem SqE.ix {K : PySem.W.Frag} {H : Hp} {a : Addr} {xs : List V} (h : SqE K H a xs) {i : Int} {j : Nat} {v : V} {Q : VK} (hi : i = (j : Int)) (hj : xs[j]? = some v) (q : Q v H) : rIx K (.ref a) (.int i) H Q :=
  h.elim (fun h => .inl ⟨a, xs, i, v, rfl, rfl, h, at_of hi hj, q⟩) fun h => .inr (.inl ⟨a, xs, i, v, rfl, rfl, h, at_of hi hj, q⟩)
section
variable {K : PySem.W.Frag} {a : Addr} {xs : List V} {g : TG} {H0 : Hp}
theorem enumE {tb : TS} {D : Ends} {σ : St} (hq : SqE K H0 a xs) (Pv : Nat → St → Hp → Prop) (same : ∀ i ρ H, Pv i ρ H → Same H0 H) (h0 : Pv 0 σ H0)
    (hs : ∀ i x ρ H T, xs[i]? = some x → Pv i ρ H → H T = none → g (.ref T) ρ (upd H T (.tup [.int (i : Nat), x])) fun ρ2 H2 => tb { D with nx := Pv (i + 1), ct := Pv (i + 1), bk := D.nx } ρ2 H2) (hd : ∀ ρ H, Pv xs.length ρ H → D.nx ρ H) :
    (SqL K H0 a xs ∧ tForR g tb D σ (Ite K a) H0) ∨ (SqT K H0 a xs ∧ tForR g tb D σ (Itf K a) H0) := by
  rcases hq with q | q
  · refine .inl ⟨q, fun i m ρ H => m = xs.length - i ∧ i ≤ xs.length ∧ Pv i ρ H, ⟨xs.length, by simp, Nat.zero_le _, h0⟩, ?_⟩
    rintro i m ρ H ⟨rfl, hi, p⟩
    have q1 := (same i ρ H p).seq q
    by_cases lt : i < xs.length
    · refine .inr ⟨⟨xs, xs[i], q1, by simp [lt]⟩, Pv (i + 1), fun ρ1 H1 p1 => ⟨xs.length - (i + 1), by omega, rfl, lt, p1⟩, fun x H1 y => ?_⟩
      obtain ⟨T, z, rfl, n, rfl, y⟩ := y
      exact hs i z ρ H T (y xs q1) p n
    · have e : i = xs.length := by omega
      subst e
      exact .inl ⟨⟨xs, q1, Nat.le_refl _⟩, hd ρ H p⟩
  · refine .inr ⟨q, fun i m ρ H => m = xs.length - i ∧ i ≤ xs.length ∧ Pv i ρ H, ⟨xs.length, by simp, Nat.zero_le _, h0⟩, ?_⟩
    rintro i m ρ H ⟨rfl, hi, p⟩
    have q1 := SqT.ext q (same i ρ H p)
    by_cases lt : i < xs.length
    · refine .inr ⟨⟨xs, xs[i], q1, by simp [lt]⟩, Pv (i + 1), fun ρ1 H1 p1 => ⟨xs.length - (i + 1), by omega, rfl, lt, p1⟩, fun x H1 y => ?_⟩
      obtain ⟨T, z, rfl, n, rfl, y⟩ := y
      exact hs i z ρ H T (y xs q1) p n
    · have e : i = xs.length := by omega
      subst e
      exact .inl ⟨⟨xs, q1, rfl⟩, hd ρ H p⟩
variable {tt : TT} {te : TE} {vs : List Nat} {σ : St} {Q : Addr → Hp → Prop}
/-- what a comprehension asks of its turns -/
def tLcR (g : TG) (tt : TT) (te : TE) (vs : List Nat) (σ : St) (Q : Addr → Hp → Prop) : It → Hp → Prop := fun J H1 => ∀ D, H1 D = none → ∃ W : Nat → Nat → Hp → Prop, (∃ m, W 0 m (upd H1 D (.lst []))) ∧ ∀ i m G, W i m G →
  (J.stop i G ∧ Q D G) ∨ (J.go i G ∧ ∃ Nx : Hp → Prop, (∀ G1, Nx G1 → ∃ m1, m1 < m ∧ W (i + 1) m1 G1) ∧ ∀ x G1, J.yld i G x G1 → g x (wipe σ vs) G1 fun σ2 H2 => wipe σ2 vs = wipe σ vs ∧ tt σ2 H2 fun b H3 =>
    if b = true then te σ2 H3 fun y H4 => ∃ acc, H4 D = some (.lst acc) ∧ acc.length < sizeLine ∧ Nx (upd H4 D (.lst (acc ++ [y]))) else Nx H3)
theorem lc_enumE (hq : SqE K H0 a xs) (Pv : Addr → Nat → Hp → Prop) (same : ∀ D i H, Pv D i H → Same H0 H) (h0 : ∀ D, H0 D = none → Pv D 0 (upd H0 D (.lst [])))
    (hs : ∀ D i x H T, H0 D = none → xs[i]? = some x → Pv D i H → H T = none → g (.ref T) (wipe σ vs) (upd H T (.tup [.int (i : Nat), x])) fun σ2 H2 => wipe σ2 vs = wipe σ vs ∧ tt σ2 H2 fun b H3 =>
      if b = true then te σ2 H3 fun y H4 => ∃ acc, H4 D = some (.lst acc) ∧ acc.length < sizeLine ∧ Pv D (i + 1) (upd H4 D (.lst (acc ++ [y]))) else Pv D (i + 1) H3)
    (hd : ∀ D H, H0 D = none → Pv D xs.length H → Q D H) :
    (SqL K H0 a xs ∧ tLcR g tt te vs σ Q (Ite K a) H0) ∨ (SqT K H0 a xs ∧ tLcR g tt te vs σ Q (Itf K a) H0) := by
  rcases hq with q | q
  · refine .inl ⟨q, fun D hD => ⟨fun i m H => m = xs.length - i ∧ i ≤ xs.length ∧ Pv D i H, ⟨xs.length, by simp, Nat.zero_le _, h0 D hD⟩, ?_⟩⟩
    rintro i m H ⟨rfl, hi, p⟩
    have q1 := (same D i H p).seq q
    by_cases lt : i < xs.length
    · refine .inr ⟨⟨xs, xs[i], q1, by simp [lt]⟩, Pv D (i + 1), fun H1 p1 => ⟨xs.length - (i + 1), by omega, rfl, lt, p1⟩, fun x H1 y => ?_⟩
      obtain ⟨T, z, rfl, n, rfl, y⟩ := y
      exact hs D i z H T hD (y xs q1) p n
    · have e : i = xs.length := by omega
      subst e
      exact .inl ⟨⟨xs, q1, Nat.le_refl _⟩, hd D H hD p⟩
  · refine .inr ⟨q, fun D hD => ⟨fun i m H => m = xs.length - i ∧ i ≤ xs.length ∧ Pv D i H, ⟨xs.length, by simp, Nat.zero_le _, h0 D hD⟩, ?_⟩⟩
    rintro i m H ⟨rfl, hi, p⟩
    have q1 := SqT.ext q (same D i H p)
    by_cases lt : i < xs.length
    · refine .inr ⟨⟨xs, xs[i], q1, by simp [lt]⟩, Pv D (i + 1), fun H1 p1 => ⟨xs.length - (i + 1), by omega, rfl, lt, p1⟩, fun x H1 y => ?_⟩
      obtain ⟨T, z, rfl, n, rfl, y⟩ := y
      exact hs D i z H T hD (y xs q1) p n
    · have e : i = xs.length := by omega
      subst e
      exact .inl ⟨⟨xs, q1, rfl⟩, hd D H hD p⟩
theorem lc_E (hq : SqE K H0 a xs) (Pv : Addr → Nat → Hp → Prop) (same : ∀ D i H, Pv D i H → Same H0 H) (h0 : ∀ D, H0 D = none → Pv D 0 (upd H0 D (.lst [])))
    (hs : ∀ D i x H, H0 D = none → xs[i]? = some x → Pv D i H → g x (wipe σ vs) H fun σ2 H2 => wipe σ2 vs = wipe σ vs ∧ tt σ2 H2 fun b H3 =>
      if b = true then te σ2 H3 fun y H4 => ∃ acc, H4 D = some (.lst acc) ∧ acc.length < sizeLine ∧ Pv D (i + 1) (upd H4 D (.lst (acc ++ [y]))) else Pv D (i + 1) H3)
    (hd : ∀ D H, H0 D = none → Pv D xs.length H → Q D H) :
    (SqL K H0 a xs ∧ tLcR g tt te vs σ Q (Itl K a) H0) ∨ (SqT K H0 a xs ∧ tLcR g tt te vs σ Q (Itt K a) H0) := by
  rcases hq with q | q
  · refine .inl ⟨q, fun D hD => ⟨fun i m H => m = xs.length - i ∧ i ≤ xs.length ∧ Pv D i H, ⟨xs.length, by simp, Nat.zero_le _, h0 D hD⟩, ?_⟩⟩
    rintro i m H ⟨rfl, hi, p⟩
    have q1 := (same D i H p).seq q
    by_cases lt : i < xs.length
    · refine .inr ⟨⟨xs, xs[i], q1, by simp [lt]⟩, Pv D (i + 1), fun H1 p1 => ⟨xs.length - (i + 1), by omega, rfl, lt, p1⟩, fun x H1 y => ?_⟩
      obtain ⟨e, y⟩ := y
      subst e
      exact hs D i x _ hD (y xs q1) p
    · have e : i = xs.length := by omega
      subst e
      exact .inl ⟨⟨xs, q1, Nat.le_refl _⟩, hd D H hD p⟩
  · refine .inr ⟨q, fun D hD => ⟨fun i m H => m = xs.length - i ∧ i ≤ xs.length ∧ Pv D i H, ⟨xs.length, by simp, Nat.zero_le _, h0 D hD⟩, ?_⟩⟩
    rintro i m H ⟨rfl, hi, p⟩
    have q1 := SqT.ext q (same D i H p)
    by_cases lt : i < xs.length
    · refine .inr ⟨⟨xs, xs[i], q1, by simp [lt]⟩, Pv D (i + 1), fun H1 p1 => ⟨xs.length - (i + 1), by omega, rfl, lt, p1⟩, fun x H1 y => ?_⟩
      obtain ⟨e, y⟩ := y
      subst e
      exact hs D i x _ hD (y xs q1) p
    · have e : i = xs.length := by omega
      subst e
      exact .inl ⟨⟨xs, q1, Nat.le_refl _⟩, hd D H hD p⟩
end
theorem enum_read {K : PySem.W.Frag} {i : Nat} {a : Addr} {xs : List V} {σ : St} {H : Hp} {R : It → Hp → Prop} (hσ : σ[i]? = some (some (.ref a))) (h : (SqL K H a xs ∧ R (Ite K a) H) ∨ (SqT K H a xs ∧ R (Itf K a) H)) :
    iEnum K (tCons (tVar i) tNil) σ H R ∨ iEnumF K (tCons (tVar i) tNil) σ H R :=
  h.elim (fun h => .inl ⟨_, hσ, a, xs, rfl, h.1, h.2⟩) fun h => .inr ⟨_, hσ, a, xs, rfl, h.1, h.2⟩
theorem seq_read {K : PySem.W.Frag} {i : Nat} {a : Addr} {xs : List V} {σ : St} {H : Hp} {R : It → Hp → Prop} (hσ : σ[i]? = some (some (.ref a))) (h : (SqL K H a xs ∧ R (Itl K a) H) ∨ (SqT K H a xs ∧ R (Itt K a) H)) :
    iList K (tVar i) σ H R ∨ iTup K (tVar i) σ H R :=
  h.elim (fun h => .inl ⟨_, hσ, a, rfl, ⟨xs, h.1⟩, h.2⟩) fun h => .inr ⟨_, hσ, a, rfl, ⟨xs, h.1⟩, h.2⟩
/-- a pair as a comprehension's target: K told -/
theorem pg_tupK {X : Cx} {K : PySem.W.Frag} {es : List Expr} {k : Nat} {t : TGs} {n : Nat} {pos : Pos} (hK : X.K = K) (hc : X.calm = true) (h : PGs X es t)
    (hn : (assignEach es X.env).length = n := by rfl) (hst : (assignEach es X.env).findIdx? (·.1) = none := by rfl) : PG X (.Tuple es k pos) (gTup K n t) := by
  subst hK
  exact pg_tup hc h hn hst
theorem CallR.imp {X : Cx} {f : Value} {r q : List V → Hp → VK → Prop} (h : CallR X f r) (i : ∀ xs H Q, q xs H Q → r xs H Q) : CallR X f q := fun pins s σ H xs us Q I rs hq => h pins s σ H xs us Q I rs (i xs H Q hq)
theorem same_new' {H : Hp} {p : Addr} {o : HO} (h : H p = none) : Same H (upd H p o) := fun b u e => by rw [upd_ne (ne_of_none e h)]; exact e
/-- tuple(x), x a list or a tuple -/
theorem call_tupE {X : Cx} : CallR X (.type "tuple") (fun xs H Q => ∃ a ys, xs = [.ref a] ∧ SqE X.K H a ys ∧ ∀ p G, Same H G → SqT X.K G p ys → Q (.ref p) G) :=
  CallR.imp call_tuple_of fun xs H Q h => by
    obtain ⟨a, ys, e, h, q⟩ := h
    refine ⟨a, ys, e, ?_⟩
    rcases h with h | h
    · exact .inl ⟨h, fun l nl => q l _ (same_new' nl) (SqT.of upd_same)⟩
    · exact .inr ⟨h, q a H (Same.refl H) h⟩
/-- max(x), x a list or a tuple of whole numbers -/
theorem cr_maxE {X : Cx} (hc : X.calm = true) : CallR X (.builtin "max") (fun xs H Q => ∃ (a : Addr) (ns : List Int), xs = [.ref a] ∧ SqE X.K H a (ns.map V.int) ∧ 0 < ns.length ∧ ∀ m, m ∈ ns → (∀ y, y ∈ ns → y ≤ m) → Q (.int m) H) :=
  CallR.imp (cr_or (cr_max hc) (cr_maxT hc)) fun xs H Q h => by
    obtain ⟨a, ns, e, h, n, q⟩ := h
    rcases h with h | h
    · exact .inl ⟨a, ns, e, h, n, q⟩
    · exact .inr ⟨a, ns, e, h, n, q⟩
end L2

set_option Elab.async false
set_option linter.all false
set_option maxRecDepth 100000
set_option maxHeartbeats 8000000
/-! the program's text by places, and what the top has written -/
namespace Z
open PySem L2
def top (i : Nat) : Stmt := PySem.Challenge.pw_leastjoined_k37_words_of_codes.main.body.getD i (.Pass ⟨0, 0, 0, 0⟩)
abbrev s_isint : Stmt := top 1
abbrev s_many : Stmt := top 14
abbrev s_lens : Stmt := top 15
abbrev s_isword : Stmt := top 16
abbrev s_cwords : Stmt := top 17
abbrev s_canon : Stmt := top 18
abbrev s_pen : Stmt := top 21
abbrev s_draw : Stmt := top 22
abbrev s_pick : Stmt := top 23
abbrev s_lof : Stmt := top 24
abbrev s_two : Stmt := top 25
abbrev s_words : Stmt := top 26
abbrev s_law : Stmt := top 27
abbrev s_init : Stmt := inClass (top 19) 0
abbrev s_eq : Stmt := inClass (top 19) 1
/-- where the defs stand -/
structure Ad where
  a_isint : Addr
  d_isint : FuncData
  a_many : Addr
  d_many : FuncData
  a_lens : Addr
  d_lens : FuncData
  a_isword : Addr
  d_isword : FuncData
  a_cwords : Addr
  d_cwords : FuncData
  a_canon : Addr
  d_canon : FuncData
  a_pen : Addr
  d_pen : FuncData
  a_draw : Addr
  d_draw : FuncData
  a_pick : Addr
  d_pick : FuncData
  a_lof : Addr
  d_lof : FuncData
  a_two : Addr
  d_two : FuncData
  a_words : Addr
  d_words : FuncData
  a_law : Addr
  d_law : FuncData
  c : Addr
  a_init : Addr
  d_init : FuncData
  a_eq : Addr
  d_eq : FuncData
/-- the class Code -/
structure Cc (K : PySem.W.Frag) (C fI fE : Addr) : Prop where
  M : Mk K C fI
  cl : Cls K C
  n_lengths : NoAttr K C "lengths"
  n_words : NoAttr K C "words"
  n_size : NoAttr K C "size"
  n_longest : NoAttr K C "longest"
  eq : PySem.W.findIn K (.ref C) "__eq__" = some (some (.ref fE))
  ne : PySem.W.findIn K (.ref C) "__ne__" = some (some (.builtin "object.__ne__"))
  fn : PySem.W.isFn K (.ref fE) = true
  sub : PySem.W.subIn K (.ref C) (.type "object") = some true
  nfc : PySem.W.notFirst K C (.ref C) = true
  nft : PySem.W.notFirst K C (.type "tuple") = true
  kc : PySem.W.kitOne K (.ref C) (.ref C) = some true
  kt : PySem.W.kitOne K (.type "tuple") (.ref C) = some false
  ha : PySem.W.findIn K (.ref C) "__class__" = some (some (.builtin "object.__class__"))
  hn : PySem.W.specialIn K (.builtin "object.__class__") "__get__" = some (some (.builtin "getset_descriptor.__get__"))
  ht : PySem.W.takesIn K (.builtin "object.__class__") = some true
  hm : PySem.W.mroIn K C (.type "object") = some true
  ii : PySem.W.kitOne K (.type "int") (.type "int") = some true
  ib : PySem.W.kitOne K (.type "int") (.type "bool") = some false
  ss : PySem.W.kitOne K (.type "str") (.type "str") = some true
  tt : PySem.W.kitOne K (.type "tuple") (.type "tuple") = some true
structure Txt (K : PySem.W.Frag) (mg : Str → Option Value) (A : Ad) : Prop where
  F_isint : Fun K "is_int" "is_int" s_isint A.a_isint A.d_isint
  g_isint : mg "is_int" = some (.ref A.a_isint)
  b_isint : Binds K A.d_isint ["value"] []
  F_many : Fun K "check_many" "check_many" s_many A.a_many A.d_many
  g_many : mg "check_many" = some (.ref A.a_many)
  b_many : Binds K A.d_many ["many"] []
  F_lens : Fun K "check_lengths" "check_lengths" s_lens A.a_lens A.d_lens
  g_lens : mg "check_lengths" = some (.ref A.a_lens)
  b_lens : Binds K A.d_lens ["lengths"] []
  F_isword : Fun K "is_word" "is_word" s_isword A.a_isword A.d_isword
  g_isword : mg "is_word" = some (.ref A.a_isword)
  b_isword : Binds K A.d_isword ["value", "length"] []
  F_cwords : Fun K "check_words" "check_words" s_cwords A.a_cwords A.d_cwords
  g_cwords : mg "check_words" = some (.ref A.a_cwords)
  b_cwords : Binds K A.d_cwords ["words", "lengths"] []
  F_canon : Fun K "canonical_words" "canonical_words" s_canon A.a_canon A.d_canon
  g_canon : mg "canonical_words" = some (.ref A.a_canon)
  b_canon : Binds K A.d_canon ["lengths"] []
  F_pen : Fun K "_law_pen_of" "_law_pen_of" s_pen A.a_pen A.d_pen
  g_pen : mg "_law_pen_of" = some (.ref A.a_pen)
  b_pen : Binds K A.d_pen ["_law_script"] []
  F_draw : Fun K "_law_draw" "_law_draw" s_draw A.a_draw A.d_draw
  g_draw : mg "_law_draw" = some (.ref A.a_draw)
  b_draw : Binds K A.d_draw ["_law_pen", "_law_many"] []
  F_pick : Fun K "_law_pick" "_law_pick" s_pick A.a_pick A.d_pick
  g_pick : mg "_law_pick" = some (.ref A.a_pick)
  b_pick : Binds K A.d_pick ["_law_pen", "_law_items"] []
  F_lof : Fun K "_law_lengths_of" "_law_lengths_of" s_lof A.a_lof A.d_lof
  g_lof : mg "_law_lengths_of" = some (.ref A.a_lof)
  b_lof : Binds K A.d_lof ["_law_pen", "_law_many"] []
  F_two : Fun K "_law_two_to" "_law_two_to" s_two A.a_two A.d_two
  g_two : mg "_law_two_to" = some (.ref A.a_two)
  b_two : Binds K A.d_two ["_law_many"] []
  F_words : Fun K "_law_words" "_law_words" s_words A.a_words A.d_words
  g_words : mg "_law_words" = some (.ref A.a_words)
  b_words : Binds K A.d_words ["_law_lengths"] []
  F_law : Fun K "law" "law" s_law A.a_law A.d_law
  g_law : mg "law" = some (.ref A.a_law)
  b_law : Binds K A.d_law ["_law_script"] []
  Co : Cc K A.c A.a_init A.a_eq
  g_Code : mg "Code" = some (.ref A.c)
  F_init : FunD K "__init__" "Code.__init__" (defArgs s_init) (defBody s_init) (defScope s_init) [.non] [] A.a_init A.d_init
  b_init1 : ∃ ds, Vals [.non] ds ∧ Binds K A.d_init ["self", "lengths", "words"] ds
  b_init2 : Binds K A.d_init ["self", "lengths", "words"] []
  F_eq : Fun K "__eq__" "Code.__eq__" s_eq A.a_eq A.d_eq
  b_eq : Binds K A.d_eq ["self", "other"] []
  k_FEWEST_SIGNS : ∃ t, mg "FEWEST_SIGNS" = some (.int 2 t)
  k_MOST_SIGNS : ∃ t, mg "MOST_SIGNS" = some (.int 26 t)
  k_LONGEST_WORD : ∃ t, mg "LONGEST_WORD" = some (.int 25 t)
  z_isinstance : mg "isinstance" = none
  z_int : mg "int" = none
  z_bool : mg "bool" = none
  z_str : mg "str" = none
  z_len : mg "len" = none
  z_enumerate : mg "enumerate" = none
  z_sum : mg "sum" = none
  z_range : mg "range" = none
  z_sorted : mg "sorted" = none
  z_tuple : mg "tuple" = none
  z_list : mg "list" = none
  z_max : mg "max" = none
  z_abs : mg "abs" = none
end Z

set_option Elab.async false
set_option linter.all false
set_option maxRecDepth 100000
set_option maxHeartbeats 8000000
/-! the draws -/
namespace Z
open PySem L2
/-- all but what stands at d stays -/
def But (d : Addr) (H H' : Hp) : Prop := ∀ x o, x ≠ d → H x = some o → H' x = some o
theorem But.of {d : Addr} {H H' : Hp} (s : Same H H') : But d H H' := fun x o _ h => s x o h
theorem But.trans {d : Addr} {H H1 H2 : Hp} (a : But d H H1) (b : But d H1 H2) : But d H H2 := fun x o n h => b x o n (a x o n h)
theorem But.upd {d : Addr} {H H' : Hp} {o : HO} (a : But d H H') : But d H (upd H' d o) := fun x u n h => by rw [upd_ne n]; exact a x u n h
theorem But.new {d p : Addr} {H H' : Hp} {o : HO} (a : But d H H') (h : H' p = none) (hd : H' d ≠ none) : But d H (L2.upd H' p o) := fun x u n z => by
  have q := a x u n z
  rw [upd_ne (ne_of_none q h)]
  exact q
/-- the pen's dict -/
def penK (l : Addr) (k m : Int) : List (Key × V) := [(.inr "cells", .ref l), (.inr "next", .int k), (.inr "left", .int m)]
theorem pen_merge (l : Addr) (k m : Int) : mergeK [] (penK l k m) = penK l k m := by kernel_rfl
theorem pen_c (l : Addr) (k m : Int) : valV (penK l k m) (Sum.inr "cells" : Key) = some (.ref l) := by kernel_rfl
theorem pen_o (l : Addr) (k m : Int) : valV (penK l k m) (Sum.inr "next" : Key) = some (.int k) := by kernel_rfl
theorem pen_l (l : Addr) (k m : Int) : valV (penK l k m) (Sum.inr "left" : Key) = some (.int m) := by kernel_rfl
theorem put_o (l : Addr) (k m k' : Int) : putK (penK l k m) (Sum.inr "next" : Key) (.int k') = penK l k' m := by kernel_rfl
theorem put_l (l : Addr) (k m m' : Int) : putK (penK l k m) (Sum.inr "left" : Key) (.int m') = penK l k m' := by kernel_rfl
/-- a pen at d: its cells, k of them opened, what is left -/
def Pen (H : Hp) (d l : Addr) (k : Nat) : Prop := ∃ (ns : List Int) (m : Int), H d = some (.dK (penK l (k : Int) m)) ∧ H l = some (.lst (ns.map V.int)) ∧ 0 ≤ m ∧ ns.length ≤ 63
theorem Pen.some {H : Hp} {d l : Addr} {k : Nat} (h : Pen H d l k) : ∃ x, H d = some (.dK ((Sum.inr "cells", V.ref l) :: x)) := by
  obtain ⟨ns, m, h, _⟩ := h
  exact ⟨_, h⟩
theorem Pen.cells {H : Hp} {d l : Addr} {k : Nat} (h : Pen H d l k) : ∃ xs, H l = Option.some (HO.lst xs) := by
  obtain ⟨ns, m, _, h, _⟩ := h
  exact ⟨_, h⟩
theorem Pen.same {H H' : Hp} {d l : Addr} {k : Nat} (h : Pen H d l k) (s : Same H H') : Pen H' d l k := by
  obtain ⟨ns, m, h1, h2, h3⟩ := h
  exact ⟨ns, m, s _ _ h1, s _ _ h2, h3⟩
theorem Pen.upd {H : Hp} {d l p : Addr} {k : Nat} {o : HO} (h : Pen H d l k) (h1 : d ≠ p) (h2 : l ≠ p) : Pen (upd H p o) d l k := by
  obtain ⟨ns, m, e1, e2, e3⟩ := h
  exact ⟨ns, m, by rw [upd_ne h1]; exact e1, by rw [upd_ne h2]; exact e2, e3⟩
theorem mul_l {i j : Int} (h1 : -(2 ^ 64) < i) (h2 : i < 2 ^ 64) : CMul i j := .inl ⟨h1, h2⟩
theorem mul_m {i j p : Int} (h : 0 < p) (hp : p ≤ 2 ^ 64) : CMul (i % p) j :=
  .inl ⟨Int.lt_of_lt_of_le (by decide) (Int.emod_nonneg _ (by omega)), Int.lt_of_lt_of_le (Int.emod_lt_of_pos _ h) hp⟩
theorem dp_ints {K : PySem.W.Frag} {H : Hp} : ∀ ns : List Int, DpAll K H (ns.map V.int) (ns.map PyData.int)
  | [] => .nil
  | n :: ns => .cons (.int n) (dp_ints ns)
theorem lay_ints : ∀ ns : List Int, PyData.canLayAll0 (ns.map PyData.int) = true ∧ PyData.depthAll (ns.map PyData.int) = 0
  | [] => by simp [PyData.canLayAll0, PyData.depthAll]
  | n :: ns => by
    obtain ⟨h1, h2⟩ := lay_ints ns
    simp [PyData.canLayAll0, PyData.canLay0, PyData.depthAll, PyData.depth, h1, h2]
theorem shaped_ints (ns : List Int) : SeqAt.shaped (.list (ns.map PyData.int)) = true := by
  obtain ⟨h1, h2⟩ := lay_ints ns
  simp [SeqAt.shaped, PyData.canLay0, PyData.depth, h1, h2]
theorem abs_nn (z : Int) : 0 ≤ (if z < 0 then -z else z) := by split <;> omega
/-! ### the promises -/
def spPen (K : PySem.W.Frag) : Sp := fun vs H Q _ => ∃ (a : Addr) (ns : List Int), vs = [.ref a] ∧ SqL K H a (ns.map V.int) ∧ ns.length ≤ 63 ∧ ∀ d l H', Pen H' d l 0 → Same H H' → H d = none → Q (.ref d) H'
def spDraw : Sp := fun vs H Q _ => ∃ (d l : Addr) (b : Int) (k : Nat), vs = [.ref d, .int b] ∧ Pen H d l k ∧ 0 < b ∧ b < 1000000 ∧ k ≤ 1000000 ∧ ∀ v H' k', 0 ≤ v → v < b → k' ≤ k + 1 → Pen H' d l k' → But d H H' → Q (.int v) H'
def spPick : Sp := fun vs H Q _ => ∃ (d l p : Addr) (xs : List V) (k : Nat), vs = [.ref d, .ref p] ∧ Pen H d l k ∧ H p = some (.lst xs) ∧ 0 < xs.length ∧ xs.length < 1000 ∧ k ≤ 1000000 ∧
  ∀ v H' k', v ∈ xs → k' ≤ k + 1 → Pen H' d l k' → But d H H' → Q v H'
section
variable {P : Program} {w : World} {K : PySem.W.Frag} {mg : Str → Option Value} {base : Heap} {A : Ad}
theorem sc_pen : FnScope ["_law_script"] ["_law_script"] (defScope s_pen) := ⟨rfl, rfl, rfl, by decide +kernel, rfl, by decide +kernel, by decide +kernel⟩
theorem ok_pen (T : Txt K mg A) : FnOk P w K mg base CX0 1 A.a_pen A.d_pen ["_law_script"] (spPen K) := by
  refine T.F_pen.ok sc_pen (fun vs H Q E h => ?_) (fun cdv A outer s H vs Q E hr h => ?_)
  · obtain ⟨a, ns, rfl, _⟩ := h; rfl
  · obtain ⟨a, ns, rfl, hs, hl, k⟩ := h
    refine ⟨_, (pss_one (ps_ret (pe_disp (pps_cons pe_str (pe_callTy call_list_of (by rfl) T.z_list (by decide +kernel) (pa_cons (pe_slice sl_list (pv 0) po_none (po_some pe_int)) pa_nil)) (pps_cons pe_str pe_int (pps_cons pe_str pe_int pps_nil))) (by rfl) (by rfl) (fun z => by cases z) (by decide)))), ?_⟩
    intro p np
    have s1 : ∀ o, Same H (upd H p o) := fun o b u e => by rw [upd_ne (ne_of_none e np)]; exact e
    refine ⟨_, rfl, 63, rfl, a, _, rfl, (s1 _).seq hs, fun q nq => ⟨q, _, rfl, .inl (SqL.of upd_same), fun l nl => ?_⟩⟩
    have nqp : p ≠ q := ne_of_none upd_same nq
    have nlp : p ≠ l := by
      refine ne_of_none (H := upd (upd H p (.dK [])) q (.lst _)) (o := .dK []) ?_ nl
      rw [upd_ne nqp]; exact upd_same
    refine ⟨?_, penK l 0 0, rfl, (by show 3 ≤ 15; decide), ?_⟩
    · rw [upd_ne nlp, upd_ne nqp]; exact upd_same
    · rw [pen_merge]
      refine k p l _ ⟨(ns.drop (HT.sIx (ns.map V.int).length 0 none)).take (HT.sIx (ns.map V.int).length (ns.map V.int).length (some 63) - HT.sIx (ns.map V.int).length 0 none), 0, upd_same, ?_, Int.le_refl 0, ?_⟩ ?_ np
      · rw [upd_ne nlp.symm, upd_same]
        unfold cutV
        rw [List.map_take, List.map_drop]
      · rw [List.length_take, List.length_drop]; omega
      · intro b u e
        have nb := ne_of_none e np
        have e1 : upd H p (.dK []) b = some u := by rw [upd_ne nb]; exact e
        have nbq := ne_of_none e1 nq
        have e2 : (upd (upd H p (.dK [])) q (.lst (cutV (ns.map V.int) none (some 63)))) b = some u := by rw [upd_ne nbq]; exact e1
        rw [upd_ne nb, upd_ne (ne_of_none e2 nl)]
        exact e2
theorem sc_draw : FnScope ["_law_pen", "_law_many", "_law_digit", "_law_index", "_law_size", "_law_cell", "_law_mixed"] ["_law_pen", "_law_many"] (defScope s_draw) := ⟨rfl, rfl, rfl, by decide +kernel, rfl, by decide +kernel, by decide +kernel⟩
theorem ok_draw (T : Txt K mg A) : FnOk P w K mg base CX0 1 A.a_draw A.d_draw ["_law_pen", "_law_many"] spDraw := by
  refine T.F_draw.ok sc_draw (fun vs H Q E h => ?_) (fun cdv A outer s H vs Q E hr h => ?_)
  · obtain ⟨d, l, b, k, rfl, _⟩ := h; rfl
  · obtain ⟨d, l, b, k, rfl, ⟨ns, m, hd, hc, hm, hn⟩, b0, b1, hk, kq⟩ := h
    have hu := hu_of hr
    have gL := pen_l l k m ▸ DGet.k (k := Sum.inr "left") hd
    have gO := pen_o l k m ▸ DGet.k (k := Sum.inr "next") hd
    have gC := pen_c l k m ▸ DGet.k (k := Sum.inr "cells") hd
    have ndl : l ≠ d := ne_of hc hd (fun z => nomatch z)
    refine ⟨_, (pss_cons (ps_if (pt_cmpR op_gt (pe_dget hu (pv 0) pe_str (fun _ _ => rfl)) pe_int (nomark _)) (pss_cons (ps_set (i := 2) sc_draw.nd rfl (Or.inl rfl) (pe_op op_mod (pe_callTy call_int1 (by rfl) T.z_int (by decide +kernel) (pa_cons (pe_dget hu (pv 0) pe_str (fun _ _ => rfl)) pa_nil)) (pv 1)))
       (pss_cons (ps_dput hu (pv 0) pe_str (pe_op op_fdiv (pe_dget hu (pv 0) pe_str (fun _ _ => rfl)) (pv 1)) rfl)
       (pss_one (ps_ret (pv 2)))))
        pss_nil)
      (pss_cons (ps_par (i := 3) (j := 4) (by rfl) sc_draw.nd rfl rfl (by decide) rfl rfl (pa_cons (pe_dget hu (pv 0) pe_str (fun _ _ => rfl)) (pa_cons (pe_callB call_len_seq (by rfl) T.z_len PySem.boot_len (pa_cons (pe_dget hu (pv 0) pe_str (fun _ _ => rfl)) pa_nil)) pa_nil)) (by rfl))
      (pss_cons (ps_dput hu (pv 0) pe_str (pe_op op_add (pv 3) pe_int) rfl)
      (pss_cons (ps_if (pt_cmpR op_eq (pv 4) pe_int (nomark _)) (pss_one (ps_ret (pe_op op_mod (pe_callTy call_int1 (by rfl) T.z_int (by decide +kernel) (pa_cons (pe_op op_add (pe_op op_mul pe_int (pv 3)) pe_int) pa_nil)) (pv 1))))
        pss_nil)
      (pss_cons (ps_set (i := 5) sc_draw.nd rfl (Or.inl rfl) (pe_ix ix_list (pe_dget hu (pv 0) pe_str (fun _ _ => rfl)) (pe_op op_mod (pe_callTy call_int1 (by rfl) T.z_int (by decide +kernel) (pa_cons (pv 3) pa_nil)) (pv 4)) (fun _ _ => rfl)))
      (pss_cons (ps_if (PW.pt (pw_and (pt_cmpR op_lt (pv 3) (pv 4) (nomark _)) (pw_and1 (pt_cmpR op_ge (pe_callB call_abs (by rfl) T.z_abs (by decide +kernel) (pa_cons (pv 5) pa_nil)) (pe_op op_pow pe_int pe_int) (nomark _))))) (pss_cons (ps_dput hu (pv 0) pe_str (pe_op op_fdiv (pe_op op_sub (pe_callB call_abs (by rfl) T.z_abs (by decide +kernel) (pa_cons (pv 5) pa_nil)) (pe_op op_pow pe_int pe_int)) (pv 1)) rfl)
       (pss_one (ps_ret (pe_op op_mod (pe_callTy call_int1 (by rfl) T.z_int (by decide +kernel) (pa_cons (pe_op op_sub (pe_callB call_abs (by rfl) T.z_abs (by decide +kernel) (pa_cons (pv 5) pa_nil)) (pe_op op_pow pe_int pe_int)) pa_nil)) (pv 1)))))
        pss_nil)
      (pss_cons (ps_set (i := 6) sc_draw.nd rfl (Or.inl rfl) (pe_op op_add (pe_op op_mul (pe_op op_mod (pe_callTy call_int1 (by rfl) T.z_int (by decide +kernel) (pa_cons (pv 5) pa_nil)) pe_int) pe_int) (pe_op op_mul (pe_op op_mul pe_int (pv 3)) (pv 3))))
      (pss_cons (ps_set (i := 6) sc_draw.nd rfl (Or.inl rfl) (pe_op op_mod (pe_callTy call_int1 (by rfl) T.z_int (by decide +kernel) (pa_cons (pe_op op_add (pe_op op_add (pv 6) (pe_op op_mul pe_int (pv 3))) pe_int) pa_nil)) pe_int))
      (pss_cons (ps_set (i := 6) sc_draw.nd rfl (Or.inl rfl) (pe_op op_mod (pe_callTy call_int1 (by rfl) T.z_int (by decide +kernel) (pa_cons (pe_op op_add (pe_op op_add (pe_op op_add (pe_op op_mul (pv 6) (pv 6)) (pe_op op_mul pe_int (pv 6))) (pe_op op_mul pe_int (pv 3))) pe_int) pa_nil)) pe_int))
      (pss_one (ps_ret (pe_op op_mod (pe_callTy call_int1 (by rfl) T.z_int (by decide +kernel) (pa_cons (pe_op op_fdiv (pe_op op_mod (pe_callTy call_int1 (by rfl) T.z_int (by decide +kernel) (pa_cons (pe_op op_mul (pv 6) (pe_op op_add (pv 6) pe_int)) pa_nil)) pe_int) pe_int) pa_nil)) (pv 1))))))))))))), ?_⟩
    refine ⟨_, rfl, d, _, rfl, gL, _, _, rfl, rfl, _, rfl, ite2 (fun c => ?_) (fun c => ?_)⟩
    · refine ⟨_, rfl, d, _, rfl, gL, .inl ⟨_, rfl, _, rfl, _, _, rfl, rfl, b0, ?_⟩⟩
      refine ⟨_, rfl, d, _, rfl, gL, _, rfl, _, _, rfl, rfl, ⟨b0, by omega⟩, _, rfl, d, _, rfl, DPut.k (k := Sum.inr "left") hd (by show 3 < sizeLine; decide), _, rfl, ?_⟩
      refine kq _ _ k (Int.emod_nonneg _ (by omega)) (Int.emod_lt_of_pos _ b0) (by omega) ⟨ns, m / b, ?_, ?_, Int.ediv_nonneg hm (by omega), hn⟩ (But.upd (fun _ _ _ e => e))
      · rw [put_l]; exact upd_same
      · rw [upd_ne ndl]; exact hc
    · refine ⟨_, rfl, d, _, rfl, gO, ?_⟩
      refine ⟨_, rfl, d, _, rfl, gC, l, _, rfl, .inl (SqL.of hc), ?_⟩
      refine ⟨_, _, rfl, _, rfl, _, _, rfl, rfl, _, rfl, d, _, rfl, DPut.k (k := Sum.inr "next") hd (by show 3 < sizeLine; decide), ?_⟩
      rw [put_o]
      have hd1 : upd H d (.dK (penK l ((k : Int) + 1) m)) d = some (.dK (penK l ((k : Int) + 1) m)) := upd_same
      have hc1 : upd H d (.dK (penK l ((k : Int) + 1) m)) l = some (.lst (ns.map V.int)) := by rw [upd_ne ndl]; exact hc
      have bt1 : But d H (upd H d (.dK (penK l ((k : Int) + 1) m))) := But.upd (fun _ _ _ e => e)
      generalize hH1 : upd H d (.dK (penK l ((k : Int) + 1) m)) = H1 at hd1 hc1 bt1 ⊢
      have gC1 := pen_c l ((k : Int) + 1) m ▸ DGet.k (k := Sum.inr "cells") hd1
      have pen1 : Pen H1 d l (k + 1) := ⟨ns, m, hd1, hc1, hm, hn⟩
      refine ⟨_, rfl, rfl, _, rfl, ite2 (fun c2 => ?_) (fun c2 => ?_)⟩
      · refine ⟨_, rfl, _, _, rfl, rfl, mul_l (by decide) (by decide), _, _, rfl, rfl, .inl ⟨_, rfl, _, rfl, _, _, rfl, rfl, b0, ?_⟩⟩
        exact kq _ _ (k + 1) (Int.emod_nonneg _ (by omega)) (Int.emod_lt_of_pos _ b0) (Nat.le_refl _) pen1 bt1
      · have hne : 0 < ns.length := by
          cases ns with
          | nil => exact absurd (decide_eq_true rfl) c2
          | cons _ _ => exact Nat.succ_pos _
        have lz : (0 : Int) < ((ns.map V.int).length : Int) := by rw [List.length_map]; omega
        obtain ⟨j, hj⟩ : ∃ j : Nat, (k : Int) % ((ns.map V.int).length : Int) = (j : Int) := ⟨((k : Int) % ((ns.map V.int).length : Int)).toNat, (Int.toNat_of_nonneg (Int.emod_nonneg _ (by omega))).symm⟩
        have hjl : j < ns.length := by
          have := Int.emod_lt_of_pos (k : Int) lz
          rw [hj, List.length_map] at this
          omega
        have hcell : (ns.map V.int)[j]? = some (V.int ns[j]) := by rw [List.getElem?_map, List.getElem?_eq_getElem hjl]; rfl
        refine ⟨_, rfl, d, _, rfl, gC1, _, rfl, .inl ⟨_, rfl, _, rfl, _, _, rfl, rfl, lz, ?_⟩⟩
        refine ⟨l, _, _, _, rfl, rfl, SqL.of hc1, at_of hj hcell, ?_⟩
        generalize ns[j] = z
        refine ⟨_, rfl, _, rfl, _, _, rfl, rfl, _, rfl, ?_⟩
        refine ite2 (fun _ => ?_) (fun _ => ?_)
        · refine ⟨_, rfl, _, rfl, _, _, rfl, rfl, ⟨by decide, by decide, by decide⟩, _, _, rfl, rfl, _, rfl, ite2 (fun c3 => ?_) (fun _ => ?_)⟩
          · have c4 := of_decide_eq_true c3
            refine ⟨_, rfl, _, rfl, _, _, rfl, rfl, ⟨by decide, by decide, by decide⟩, _, _, rfl, rfl, _, rfl, _, _, rfl, rfl, ⟨b0, by omega⟩, _, rfl, d, _, rfl, DPut.k (k := Sum.inr "left") hd1 (by show 3 < sizeLine; decide), ?_⟩
            refine ⟨_, rfl, _, rfl, _, _, rfl, rfl, ⟨by decide, by decide, by decide⟩, _, _, rfl, rfl, .inl ⟨_, rfl, _, rfl, _, _, rfl, rfl, b0, ?_⟩⟩
            refine kq _ _ (k + 1) (Int.emod_nonneg _ (by omega)) (Int.emod_lt_of_pos _ b0) (Nat.le_refl _) ⟨ns, _, by rw [put_l]; exact upd_same, ?_, Int.ediv_nonneg (Int.sub_nonneg_of_le c4) (by omega), hn⟩ (But.upd bt1)
            rw [upd_ne ndl]; exact hc1
          · exact (by
            refine ⟨_, rfl, .inl ⟨_, rfl, _, _, rfl, rfl, (by decide : (0 : Int) < 4294967197), _, _, rfl, rfl, mul_m (by decide) (by decide), _, rfl, _, _, rfl, rfl, mul_l (by decide) (by decide), _, rfl, _, _, rfl, rfl, mul_l (by omega) (by omega), _, _, rfl, rfl, ?_⟩⟩
            refine ⟨_, rfl, _, rfl, _, _, rfl, rfl, mul_l (by decide) (by decide), _, _, rfl, rfl, _, _, rfl, rfl, .inl ⟨_, rfl, _, _, rfl, rfl, (by decide : (0 : Int) < 4294967189), ?_⟩⟩
            refine ⟨_, rfl, _, rfl, _, _, rfl, rfl, mul_m (by decide) (by decide), _, rfl, _, _, rfl, rfl, mul_l (by decide) (by decide), _, _, rfl, rfl, _, rfl, _, _, rfl, rfl, mul_l (by decide) (by decide), _, _, rfl, rfl, _, _, rfl, rfl, .inl ⟨_, rfl, _, _, rfl, rfl, (by decide : (0 : Int) < 4294967161), ?_⟩⟩
            refine ⟨_, rfl, _, rfl, _, _, rfl, rfl, _, _, rfl, rfl, mul_m (by decide) (by decide), .inl ⟨_, rfl, _, _, rfl, rfl, (by decide : (0 : Int) < 4294967143), _, _, rfl, rfl, ⟨by decide, by decide⟩, .inl ⟨_, rfl, _, rfl, _, _, rfl, rfl, b0, ?_⟩⟩⟩
            exact kq _ _ (k + 1) (Int.emod_nonneg _ (by omega)) (Int.emod_lt_of_pos _ b0) (Nat.le_refl _) pen1 bt1)
        · refine iteF ?_
          exact (by
            refine ⟨_, rfl, .inl ⟨_, rfl, _, _, rfl, rfl, (by decide : (0 : Int) < 4294967197), _, _, rfl, rfl, mul_m (by decide) (by decide), _, rfl, _, _, rfl, rfl, mul_l (by decide) (by decide), _, rfl, _, _, rfl, rfl, mul_l (by omega) (by omega), _, _, rfl, rfl, ?_⟩⟩
            refine ⟨_, rfl, _, rfl, _, _, rfl, rfl, mul_l (by decide) (by decide), _, _, rfl, rfl, _, _, rfl, rfl, .inl ⟨_, rfl, _, _, rfl, rfl, (by decide : (0 : Int) < 4294967189), ?_⟩⟩
            refine ⟨_, rfl, _, rfl, _, _, rfl, rfl, mul_m (by decide) (by decide), _, rfl, _, _, rfl, rfl, mul_l (by decide) (by decide), _, _, rfl, rfl, _, rfl, _, _, rfl, rfl, mul_l (by decide) (by decide), _, _, rfl, rfl, _, _, rfl, rfl, .inl ⟨_, rfl, _, _, rfl, rfl, (by decide : (0 : Int) < 4294967161), ?_⟩⟩
            refine ⟨_, rfl, _, rfl, _, _, rfl, rfl, _, _, rfl, rfl, mul_m (by decide) (by decide), .inl ⟨_, rfl, _, _, rfl, rfl, (by decide : (0 : Int) < 4294967143), _, _, rfl, rfl, ⟨by decide, by decide⟩, .inl ⟨_, rfl, _, rfl, _, _, rfl, rfl, b0, ?_⟩⟩⟩
            exact kq _ _ (k + 1) (Int.emod_nonneg _ (by omega)) (Int.emod_lt_of_pos _ b0) (Nat.le_refl _) pen1 bt1)
end
end Z

set_option Elab.async false
set_option linter.all false
set_option maxRecDepth 100000
set_option maxHeartbeats 8000000
/-! small defs -/
namespace Z
open PySem L2 KR
theorem yes_of {σ : L2.St} {H : Hp} {B C : Bool → Hp → Prop} (h : B true H) : tYes σ H (fun b H3 => if b = true then B b H3 else C b H3) := by
  unfold tYes
  show if true = true then B true H else C true H
  rw [if_pos rfl]
  exact h
def txs (ws : List (List Nat)) : List V := ws.map fun x => V.str (txt x)
def Ls (L : List Nat) : List V := (L.map fun (l : Nat) => (l : Int)).map V.int
def pr (L : List Nat) : List Pr := L.zipIdx
def cw (L : List Nat) : List (List Nat) := (pr L).map (word (pr L))
structure Good (L : List Nat) : Prop where
  lo : 2 ≤ L.length
  hi : L.length ≤ 26
  kr : Kr (pr L)
structure WOk (ws : List (List Nat)) (L : List Nat) : Prop where
  len : ws.length = L.length
  bit : ∀ (i : Nat) (x : List Nat) (l : Nat), ws[i]? = some x → L[i]? = some l → x.length = l ∧ ∀ c ∈ x, c = 48 ∨ c = 49
  free : ∀ (i j : Nat) (x y : List Nat), ws[i]? = some x → ws[j]? = some y → i < j → ¬ y <+: x ∧ ¬ x <+: y
theorem Good.at {L : List Nat} (G : Good L) {i l : Nat} (h : L[i]? = some l) : 1 ≤ l ∧ l ≤ 25 := by
  have : (l, i) ∈ pr L := by
    unfold pr
    rw [List.mem_zipIdx_iff_getElem?]
    exact h
  exact G.kr.2 _ this
theorem Ls_len (L : List Nat) : (Ls L).length = L.length := by simp [Ls]
theorem Ls_at {L : List Nat} {i l : Nat} (h : L[i]? = some l) : (Ls L)[i]? = some (.int (l : Int)) := by simp [Ls, h]
theorem Ls_of {L : List Nat} {i : Nat} {v : V} (h : (Ls L)[i]? = some v) : ∃ l, L[i]? = some l ∧ v = .int (l : Int) := by
  simp only [Ls, List.map_map, List.getElem?_map, Option.map_eq_some_iff] at h
  obtain ⟨l, e, rfl⟩ := h
  exact ⟨l, e, rfl⟩
theorem txs_len (ws : List (List Nat)) : (txs ws).length = ws.length := by simp [txs]
theorem txs_at {ws : List (List Nat)} {i : Nat} {x : List Nat} (h : ws[i]? = some x) : (txs ws)[i]? = some (.str (txt x)) := by simp [txs, h]
theorem txs_of {ws : List (List Nat)} {i : Nat} {v : V} (h : (txs ws)[i]? = some v) : ∃ x, ws[i]? = some x ∧ v = .str (txt x) := by
  simp only [txs, List.getElem?_map, Option.map_eq_some_iff] at h
  obtain ⟨l, e, rfl⟩ := h
  exact ⟨l, e, rfl⟩
def spIs : Sp := fun vs H Q _ => ∃ i : Int, vs = [.int i] ∧ Q (.bl true) H
def spMany : Sp := fun vs H Q _ => ∃ i : Int, vs = [.int i] ∧ 2 ≤ i ∧ i ≤ 26 ∧ Q .non H
def spIsword : Sp := fun vs H Q _ => ∃ (x : List Nat) (l : Int), vs = [.str (txt x), .int l] ∧ (x.length : Int) = l ∧ x.length ≤ 1000 ∧ (∀ c ∈ x, c = 48 ∨ c = 49) ∧ Q (.bl true) H
def spTwo : Sp := fun vs H Q _ => ∃ n : Nat, vs = [.int (n : Int)] ∧ n ≤ 60 ∧ Q (.int ((2 ^ n : Nat) : Int)) H
section
variable {P : Program} {w : World} {K : PySem.W.Frag} {mg : Str → Option Value} {base : Heap} {A : Ad}
theorem sc_pick : FnScope ["_law_pen", "_law_items"] ["_law_pen", "_law_items"] (defScope s_pick) := ⟨rfl, rfl, rfl, by decide +kernel, rfl, by decide +kernel, by decide +kernel⟩
theorem ok_pick (T : Txt K mg A) : FnOk P w K mg base CX0 2 A.a_pick A.d_pick ["_law_pen", "_law_items"] spPick := by
  have G_draw := ok_draw (P := P) (w := w) (base := base) T
  refine T.F_pick.ok sc_pick (fun vs H Q E h => ?_) (fun cdv A outer s H vs Q E hr h => ?_)
  · obtain ⟨d, l, p, xs, k, rfl, _⟩ := h; rfl
  · obtain ⟨d, l, p, xs, k, rfl, pen, hp, h0, h1, hk, kq⟩ := h
    refine ⟨_, (pss_one (ps_ret (pe_ix ix_list (pv 1) (pe_call G_draw (hr.mono (by decide)) (by rfl) T.g_draw T.F_draw.kp T.b_draw .nil pass0 (pa_cons (pv 0) (pa_cons (pe_callB call_len_seq (by rfl) T.z_len PySem.boot_len (pa_cons (pv 1) pa_nil)) pa_nil))) (fun _ _ => rfl)))), ?_⟩
    refine ⟨_, rfl, _, rfl, _, rfl, p, xs, rfl, .inl (SqL.of hp), d, l, _, k, rfl, pen, by omega, by omega, hk, fun v H' k' v0 v1 kk pen' bt => ?_⟩
    obtain ⟨x, e⟩ := pen.some
    have hp' : H' p = some (.lst xs) := bt _ _ (ne_of hp e (fun z => nomatch z)) hp
    have hv : v.toNat < xs.length := by omega
    refine ⟨p, xs, v, xs[v.toNat], rfl, rfl, SqL.of hp', at_of (Int.toNat_of_nonneg v0).symm (List.getElem?_eq_getElem hv), ?_⟩
    exact kq _ _ _ (List.getElem_mem hv) kk pen' bt
theorem sc_isint : FnScope ["value"] ["value"] (defScope s_isint) := ⟨rfl, rfl, rfl, by decide +kernel, rfl, by decide +kernel, by decide +kernel⟩
theorem ok_isint (T : Txt K mg A) : FnOk P w K mg base CX0 1 A.a_isint A.d_isint ["value"] spIs := by
  refine T.F_isint.ok sc_isint (fun vs H Q E h => ?_) (fun cdv A outer s H vs Q E hr h => ?_)
  · obtain ⟨i, rfl, _⟩ := h; rfl
  · obtain ⟨i, rfl, kq⟩ := h
    refine ⟨_, (pss_one (ps_ret (pe_and (pe_callB call_isi (by rfl) T.z_isinstance (by decide +kernel) (pa_cons (pv 0) (pa_cons (pe_bltn (v := .ty "int") (by rfl) T.z_int (by decide +kernel) rfl) pa_nil))) (pe_one (pe_not (pe_callB call_isi (by rfl) T.z_isinstance (by decide +kernel) (pa_cons (pv 0) (pa_cons (pe_bltn (v := .ty "bool") (by rfl) T.z_bool (by decide +kernel) rfl) pa_nil)))))))), ?_⟩
    refine ⟨_, rfl, .int i, .ty "int", .type "int", .type "int", true, rfl, .ty "int", .base (.int i), T.Co.ii, ?_⟩
    refine ⟨true, rfl, iteT ?_⟩
    exact ⟨_, rfl, .int i, .ty "bool", .type "int", .type "bool", false, rfl, .ty "bool", .base (.int i), T.Co.ib, _, rfl, kq⟩
theorem sc_many : FnScope ["many"] ["many"] (defScope s_many) := ⟨rfl, rfl, rfl, by decide +kernel, rfl, by decide +kernel, by decide +kernel⟩
theorem ok_many (T : Txt K mg A) : FnOk P w K mg base CX0 1 A.a_many A.d_many ["many"] spMany := by
  refine T.F_many.ok sc_many (fun vs H Q E h => ?_) (fun cdv A outer s H vs Q E hr h => ?_)
  · obtain ⟨i, rfl, _⟩ := h; rfl
  · obtain ⟨i, rfl, h0, h1, kq⟩ := h
    refine ⟨_, (pss_one (ps_if (PW.pt (pw_or (pt_cmpR op_lt (pv 0) (pe_glob (v := .int 2) rfl (Classical.choose_spec T.k_FEWEST_SIGNS) ⟨_, rfl⟩) (nomark _)) (pw_or1 (pt_cmpR op_gt (pv 0) (pe_glob (v := .int 26) rfl (Classical.choose_spec T.k_MOST_SIGNS) ⟨_, rfl⟩) (nomark _))))) (pss_one ps_never)
        pss_nil)), ?_⟩
    refine ⟨_, rfl, _, _, rfl, rfl, _, rfl, ?_⟩
    rw [show decide (i < 2) = false from decide_eq_false (by omega)]
    refine iteF ⟨_, rfl, _, _, rfl, rfl, _, rfl, ?_⟩
    rw [show decide (26 < i) = false from decide_eq_false (by omega)]
    exact iteF kq
theorem sc_isword : FnScope ["value", "length"] ["value", "length"] (defScope s_isword) := ⟨rfl, rfl, rfl, by decide +kernel, rfl, by decide +kernel, by decide +kernel⟩
theorem ok_isword (T : Txt K mg A) : FnOk P w K mg base CX0 1 A.a_isword A.d_isword ["value", "length"] spIsword := by
  refine T.F_isword.ok sc_isword (fun vs H Q E h => ?_) (fun cdv A outer s H vs Q E hr h => ?_)
  · obtain ⟨x, l, rfl, _⟩ := h; rfl
  · obtain ⟨x, l, rfl, hl, h1, hb, kq⟩ := h
    refine ⟨_, (pss_cons (ps_if (PW.pt (pw_or (pt_not (pt_val (pe_callB call_isi (by rfl) T.z_isinstance (by decide +kernel) (pa_cons (pv 0) (pa_cons (pe_bltn (v := .ty "str") (by rfl) T.z_str (by decide +kernel) rfl) pa_nil))))) (pw_or1 (pt_cmpR op_ne (pe_callB call_len_str (by rfl) T.z_len PySem.boot_len (pa_cons (pv 0) pa_nil)) (pv 1) (nomark _))))) (pss_one (ps_ret pe_bl))
        pss_nil)
      (pss_one (ps_ret (pe_cmpR op_eq (pe_op op_add (pe_m1 PySem.F.slot_str_count PySem.F.type_str_count mt_count (pv 0) pe_str) (pe_m1 PySem.F.slot_str_count PySem.F.type_str_count mt_count (pv 0) pe_str)) (pv 1) (nomark _))))), ?_⟩
    refine ⟨_, rfl, .str _, .ty "str", .type "str", .type "str", true, rfl, .ty "str", .base (.str _), T.Co.ss, ?_⟩
    refine ⟨true, rfl, iteF ?_⟩
    refine ⟨_, rfl, _, rfl, (by rw [txt_len]; exact Nat.le_trans h1 (by decide)), _, rfl, rfl, _, rfl, ?_⟩
    rw [show decide (V.int (((txt x).length : Nat) : Int) = V.int l) = true from decide_eq_true (by rw [txt_len, hl])]
    refine iteF ?_
    refine ⟨_, rfl, ⟨_, rfl⟩, _, _, rfl, rfl, _, rfl, ⟨_, rfl⟩, _, _, rfl, rfl, _, _, rfl, rfl, _, rfl, rfl, ?_⟩
    have e : Txt.count (txt x) (Str.ofString "0") + Txt.count (txt x) (Str.ofString "1") = l := (count_bits hb).trans hl
    show Q (V.bl (decide (V.int (Txt.count (txt x) (Str.ofString "0") + Txt.count (txt x) (Str.ofString "1")) = V.int l))) H
    rw [e]
    have e2 : decide (V.int l = V.int l) = true := decide_eq_true rfl
    rw [e2]
    exact kq
theorem sc_two : FnScope ["_law_many", "_law_found", "_law_turn"] ["_law_many"] (defScope s_two) := ⟨rfl, rfl, rfl, by decide +kernel, rfl, by decide +kernel, by decide +kernel⟩
theorem ok_two (T : Txt K mg A) : FnOk P w K mg base CX0 1 A.a_two A.d_two ["_law_many"] spTwo := by
  refine T.F_two.ok sc_two (fun vs H Q E h => ?_) (fun cdv A outer s H vs Q E hr h => ?_)
  · obtain ⟨n, rfl, _⟩ := h; rfl
  · obtain ⟨n, rfl, hn, kq⟩ := h
    refine ⟨_, (pss_cons (ps_set (i := 1) sc_two.nd rfl (Or.inl rfl) pe_int)
      (pss_cons (ps_for PassesOwn.never rfl (pi_range1 (by rfl) T.z_range (pa_cons (pv 0) pa_nil)) (pg_name (i := 2) sc_two.nd rfl (Or.inl rfl))
         (pss_one (ps_set (i := 1) sc_two.nd rfl (Or.inl rfl) (pe_op op_mul (pv 1) pe_int))))
      (pss_one (ps_ret (pv 1))))), ?_⟩
    refine ⟨_, rfl, _, rfl, by omega, by omega, ?_⟩
    refine for_range (lo := 0) (n := ((n : Int)).toNat) (fun j σ G => (∃ z, σ = [some (.int (n : Int)), some (.int ((2 ^ j : Nat) : Int)), z]) ∧ G = H) ⟨⟨_, rfl⟩, rfl⟩ ?_ ?_
    · rintro j σ G hj ⟨⟨z, rfl⟩, rfl⟩
      refine ⟨_, rfl, _, _, rfl, rfl, .inr ⟨by decide, by decide⟩, ⟨some (.int (0 + (j : Int))), ?_⟩, rfl⟩
      have e : ((2 ^ j : Nat) : Int) * 2 = ((2 ^ (j + 1) : Nat) : Int) := by rw [Nat.pow_succ]; rfl
      show [some (V.int (n : Int)), some (V.int (((2 ^ j : Nat) : Int) * 2)), some (.int (0 + (j : Int)))] = _
      rw [e]
    · rintro σ G ⟨⟨z, rfl⟩, rfl⟩
      exact ⟨_, rfl, by rw [Int.toNat_natCast]; exact kq⟩
end
end Z

set_option Elab.async false
set_option linter.all false
set_option maxRecDepth 100000
set_option maxHeartbeats 8000000
/-! the checks of lengths -/
namespace Z
open PySem L2 KR
def spLens (K : PySem.W.Frag) : Sp := fun vs H Q _ => ∃ (a : Addr) (L : List Nat), vs = [.ref a] ∧ SqE K H a (Ls L) ∧ Good L ∧ ∀ H', Same H H' → Q .non H'
def wid (l : Nat) : Int := 1 * 2 ^ ((25 : Int) - (l : Int)).toNat
theorem wid_eq {l : Nat} (h : l ≤ 25) : wid l = ((2 ^ (25 - l) : Nat) : Int) := by
  unfold wid
  rw [Int.one_mul, show ((25 : Int) - (l : Int)).toNat = 25 - l by omega]
  norm_cast
theorem wid_sum : ∀ (L : List Nat), (∀ l ∈ L, l ≤ 25) → (L.map wid).sum = (((L.map fun l => 2 ^ (25 - l)).sum : Nat) : Int)
  | [], _ => rfl
  | l :: L, h => by
    rw [List.map_cons, List.map_cons, List.sum_cons, List.sum_cons, wid_sum L fun x hx => h x (List.mem_cons_of_mem _ hx), wid_eq (h l (List.mem_cons_self ..))]
    omega
theorem pr_fst (L : List Nat) (f : Nat → Nat) : ((pr L).map fun q => f q.1) = L.map f := by
  unfold pr
  have : (L.zipIdx.map fun q => f q.1) = (L.zipIdx.map Prod.fst).map f := by rw [List.map_map]; rfl
  rw [this, List.zipIdx_map_fst]
theorem Good.le {L : List Nat} (G : Good L) : ∀ l ∈ L, l ≤ 25 := fun l hl => by
  obtain ⟨i, hi, e⟩ := List.getElem_of_mem hl
  exact (G.at (i := i) (by rw [List.getElem?_eq_getElem hi, e])).2
theorem Good.sum {L : List Nat} (G : Good L) : (L.map wid).sum = 1 * 2 ^ (25 : Int).toNat := by
  rw [wid_sum L G.le, ← pr_fst L, G.kr.1]
  rfl
theorem same_new {H : Hp} {p : Addr} {o : HO} (h : H p = none) : Same H (upd H p o) := fun b u e => by rw [upd_ne (ne_of_none e h)]; exact e
section
variable {P : Program} {w : World} {K : PySem.W.Frag} {mg : Str → Option Value} {base : Heap} {A : Ad}
theorem sc_lens : FnScope ["lengths", "index", "length"] ["lengths"] (defScope s_lens) := ⟨rfl, rfl, rfl, by decide +kernel, rfl, by decide +kernel, by decide +kernel⟩
theorem ok_lens (T : Txt K mg A) : FnOk P w K mg base CX0 2 A.a_lens A.d_lens ["lengths"] (spLens K) := by
  have G_many := ok_many (P := P) (w := w) (base := base) T
  have G_isint := ok_isint (P := P) (w := w) (base := base) T
  refine T.F_lens.ok sc_lens (fun vs H Q E h => ?_) (fun cdv A outer s H vs Q E hr h => ?_)
  · obtain ⟨a, L, rfl, _⟩ := h; rfl
  · obtain ⟨a, L, rfl, hq, G, kq⟩ := h
    refine ⟨_, (pss_cons (ps_expr (pe_call G_many (hr.mono (by decide)) (by rfl) T.g_many T.F_many.kp T.b_many .nil pass0 (pa_cons (pe_callB call_len_seq (by rfl) T.z_len PySem.boot_len (pa_cons (pv 0) pa_nil)) pa_nil)))
      (pss_cons (ps_for PassesOwn.never rfl (pi_or (pi_enum (by rfl) T.z_enumerate (pa_cons (pv 0) pa_nil)) (pi_enumF (by rfl) T.z_enumerate (pa_cons (pv 0) pa_nil))) (pg_tup (by rfl) (pgs_cons (pg_name (i := 1) sc_lens.nd rfl (Or.inl rfl)) (pgs_cons (pg_name (i := 2) sc_lens.nd rfl (Or.inl rfl)) pgs_nil)))
         (pss_one (ps_if (PW.pt (pw_or (pt_not (pt_val (pe_call G_isint (hr.mono (by decide)) (by rfl) T.g_isint T.F_isint.kp T.b_isint .nil pass0 (pa_cons (pv 2) pa_nil)))) (pw_or (pt_cmpR op_lt (pv 2) pe_int (nomark _)) (pw_or1 (pt_cmpR op_gt (pv 2) (pe_glob (v := .int 25) rfl (Classical.choose_spec T.k_LONGEST_WORD) ⟨_, rfl⟩) (nomark _)))))) (pss_one ps_never)
           pss_nil)))
      (pss_one (ps_if (pt_cmpR op_ne (pe_callB (cr_sum rfl) (by rfl) T.z_sum (by decide +kernel) (pa_cons (pe_lc (own := [("length", 2)]) (by rfl) sc_lens.nd (pi_or (pi_list (pv 0)) (pi_tup (pv 0))) (blkOk_by (own := [("length", 2)]) (N := ["lengths", "index", "length"]) (sc := defScope s_lens) (by decide +kernel)) (fun _ _ _ _ _ => (pg_name (i := 2) sc_lens.nd rfl (Or.inl rfl))) (fun _ _ _ _ _ => pts_nil) (fun _ _ _ _ _ => (pe_op op_shl pe_int (pe_op op_sub (pe_glob (v := .int 25) rfl (Classical.choose_spec T.k_LONGEST_WORD) ⟨_, rfl⟩) (pv 2))))) pa_nil)) (pe_op op_shl pe_int (pe_glob (v := .int 25) rfl (Classical.choose_spec T.k_LONGEST_WORD) ⟨_, rfl⟩)) (nomark _)) (pss_one ps_never)
        pss_nil)))), ?_⟩
    have ll := Ls_len L
    refine ⟨_, rfl, a, _, rfl, hq, _, rfl, by have := G.lo; omega, by have := G.hi; omega, ?_⟩
    refine enum_read (a := a) (xs := Ls L) rfl (enumE hq (fun i ρ G => (∃ y z, ρ = [some (.ref a), y, z]) ∧ Same H G) (fun _ _ _ h => h.2) ⟨⟨_, _, rfl⟩, Same.refl H⟩ ?_ ?_)
    · rintro i x ρ G1 T hx ⟨⟨y, z, rfl⟩, sm⟩ nT
      obtain ⟨l, hl, rfl⟩ := Ls_of hx
      have r := G.at hl
      refine ⟨T, _, rfl, SqT.of upd_same, rfl, ?_⟩
      refine ⟨_, _, rfl, _, _, rfl, rfl, ?_⟩
      have sm1 : Same H (upd G1 T (.tup [.int (i : Int), .int (l : Int)])) := sm.trans fun b o e => by rw [upd_ne (ne_of_none e nT)]; exact e
      refine ⟨_, rfl, (l : Int), rfl, true, rfl, iteF ⟨_, rfl, _, _, rfl, rfl, _, rfl, ?_⟩⟩
      rw [show decide ((l : Int) < 1) = false from decide_eq_false (by omega)]
      refine iteF ⟨_, rfl, _, _, rfl, rfl, _, rfl, ?_⟩
      rw [show decide ((25 : Int) < (l : Int)) = false from decide_eq_false (by omega)]
      exact iteF ⟨⟨_, _, rfl⟩, sm1⟩
    · rintro ρ G1 ⟨⟨y, z, rfl⟩, sm⟩
      refine seq_read (a := a) (xs := Ls L) rfl (lc_E (hq.same sm) (fun D i G => Same G1 G ∧ G D = some (.lst (((L.take i).map wid).map V.int))) (fun _ _ _ h => h.1) (fun D hD => ⟨same_new hD, by simp [upd_same]⟩) ?_ ?_)
      · rintro D i x G2 hD hx ⟨s2, hD2⟩
        obtain ⟨l, hl, rfl⟩ := Ls_of hx
        have r := G.at hl
        refine ⟨rfl, yes_of ?_⟩
        refine ⟨_, rfl, _, _, rfl, rfl, _, _, rfl, rfl, ⟨by omega, by omega, by decide⟩, _, hD2, ?_, fun b o e => by rw [upd_ne (ne_of_none e hD)]; exact s2 _ _ e, ?_⟩
        · have := G.hi
          rw [List.length_map, List.length_map, List.length_take, sizeLine_eq]
          omega
        · rw [upd_same, List.take_succ, hl, List.map_append, List.map_append]
          rfl
      · rintro D G2 hD ⟨s2, hD2⟩
        rw [ll, List.take_length] at hD2
        refine ⟨D, L.map wid, rfl, SqL.of hD2, _, _, rfl, rfl, ⟨by decide, by decide, by decide⟩, rfl, _, rfl, ?_⟩
        have e : decide (V.int (L.map wid).sum = V.int (1 * 2 ^ (25 : Int).toNat)) = true := decide_eq_true (by rw [G.sum])
        rw [e]
        exact iteF (kq _ (sm.trans s2))
end
end Z

set_option Elab.async false
set_option linter.all false
set_option maxRecDepth 100000
set_option maxHeartbeats 8000000
/-! the checks of words -/
namespace Z
open PySem L2 KR
def spCw (K : PySem.W.Frag) : Sp := fun vs H Q _ => ∃ (b a : Addr) (ws : List (List Nat)) (L : List Nat), vs = [.ref b, .ref a] ∧ SqE K H b (txs ws) ∧ SqE K H a (Ls L) ∧ Good L ∧ WOk ws L ∧ ∀ H', Same H H' → Q .non H'
section
variable {P : Program} {w : World} {K : PySem.W.Frag} {mg : Str → Option Value} {base : Heap} {A : Ad}
theorem sc_cwords : FnScope ["words", "lengths", "index", "word", "other"] ["words", "lengths"] (defScope s_cwords) := ⟨rfl, rfl, rfl, by decide +kernel, rfl, by decide +kernel, by decide +kernel⟩
theorem ok_cwords (T : Txt K mg A) : FnOk P w K mg base CX0 2 A.a_cwords A.d_cwords ["words", "lengths"] (spCw K) := by
  have G_isword := ok_isword (P := P) (w := w) (base := base) T
  refine T.F_cwords.ok sc_cwords (fun vs H Q E h => ?_) (fun cdv A outer s H vs Q E hr h => ?_)
  · obtain ⟨b, a, ws, L, rfl, _⟩ := h; rfl
  · obtain ⟨b, a, ws, L, rfl, hb, ha, G, ok, kq⟩ := h
    refine ⟨_, (pss_cons (ps_for PassesOwn.never rfl (pi_or (pi_enum (by rfl) T.z_enumerate (pa_cons (pv 0) pa_nil)) (pi_enumF (by rfl) T.z_enumerate (pa_cons (pv 0) pa_nil))) (pg_tup (by rfl) (pgs_cons (pg_name (i := 2) sc_cwords.nd rfl (Or.inl rfl)) (pgs_cons (pg_name (i := 3) sc_cwords.nd rfl (Or.inl rfl)) pgs_nil)))
         (pss_one (ps_if (pt_not (pt_val (pe_call G_isword (hr.mono (by decide)) (by rfl) T.g_isword T.F_isword.kp T.b_isword .nil pass0 (pa_cons (pv 3) (pa_cons (pe_ix ix_seq (pv 1) (pv 2) (fun _ _ => rfl)) pa_nil))))) (pss_one ps_never)
           pss_nil)))
      (pss_one (ps_for PassesOwn.never rfl (pi_or (pi_enum (by rfl) T.z_enumerate (pa_cons (pv 0) pa_nil)) (pi_enumF (by rfl) T.z_enumerate (pa_cons (pv 0) pa_nil))) (pg_tup (by rfl) (pgs_cons (pg_name (i := 2) sc_cwords.nd rfl (Or.inl rfl)) (pgs_cons (pg_name (i := 3) sc_cwords.nd rfl (Or.inl rfl)) pgs_nil)))
         (pss_one (ps_for PassesOwn.never rfl (pi_range2 (by rfl) T.z_range (pa_cons (pe_op op_add (pv 2) pe_int) (pa_cons (pe_callB call_len_seq (by rfl) T.z_len PySem.boot_len (pa_cons (pv 0) pa_nil)) pa_nil))) (pg_name (i := 4) sc_cwords.nd rfl (Or.inl rfl))
            (pss_one (ps_if (PW.pt (pw_or (pt_val (pe_m1 PySem.F.slot_str_startswith PySem.F.type_str_startswith mt_startswith (pv 3) (pe_ix ix_seq (pv 0) (pv 4) (fun _ _ => rfl)))) (pw_or1 (pt_val (pe_m1 PySem.F.slot_str_startswith PySem.F.type_str_startswith mt_startswith (pe_ix ix_seq (pv 0) (pv 4) (fun _ _ => rfl)) (pv 3)))))) (pss_one ps_never)
              pss_nil))))))), ?_⟩
    have lw := txs_len ws
    have l26 := G.hi
    have wl := ok.len
    refine enum_read (a := b) (xs := txs ws) rfl (enumE hb (fun i ρ G => (∃ y z u, ρ = [some (.ref b), some (.ref a), y, z, u]) ∧ Same H G) (fun _ _ _ h => h.2) ⟨⟨_, _, _, rfl⟩, Same.refl H⟩ ?_ ?_)
    · rintro i v ρ G1 T hx ⟨⟨y, z, u, rfl⟩, sm⟩ nT
      obtain ⟨x, hw, rfl⟩ := txs_of hx
      have li : i < L.length := by rw [← wl]; exact (List.getElem?_eq_some_iff.mp hw).1
      have hl := List.getElem?_eq_getElem li
      obtain ⟨xl, x01⟩ := ok.bit i x _ hw hl
      have r := G.at hl
      have sm1 : Same H (upd G1 T (.tup [.int (i : Int), .str (txt x)])) := sm.trans (same_new nT)
      refine ⟨T, _, rfl, SqT.of upd_same, rfl, ?_⟩
      refine ⟨_, _, rfl, _, _, rfl, rfl, ?_⟩
      refine ⟨_, rfl, _, rfl, _, rfl, (ha.same sm1).ix rfl (Ls_at hl) ?_⟩
      refine ⟨x, _, rfl, by rw [xl], by omega, x01, true, rfl, iteF ⟨⟨_, _, _, rfl⟩, sm1⟩⟩
    · rintro ρ G1 ⟨⟨y, z, u, rfl⟩, sm⟩
      refine enum_read (a := b) (xs := txs ws) rfl (enumE (hb.same sm) (fun i ρ G => (∃ y z u, ρ = [some (.ref b), some (.ref a), y, z, u]) ∧ Same H G ∧ Same G1 G) (fun _ _ _ h => h.2.2) ⟨⟨_, _, _, rfl⟩, sm, Same.refl G1⟩ ?_ ?_)
      · rintro i v ρ G2 T hx ⟨⟨y, z, u, rfl⟩, sm2, sm3⟩ nT
        obtain ⟨x, hw, rfl⟩ := txs_of hx
        have sn := same_new (o := .tup [.int (i : Int), .str (txt x)]) nT
        have s4 := sm2.trans sn
        have s5 := sm3.trans sn
        refine ⟨T, _, rfl, SqT.of upd_same, rfl, ?_⟩
        generalize upd G2 T (.tup [.int (i : Int), .str (txt x)]) = G3 at s4 s5 ⊢
        refine ⟨_, _, rfl, _, _, rfl, rfl, ?_⟩
        have iw : i < ws.length := (List.getElem?_eq_some_iff.mp hw).1
        have hb3 := hb.same s4
        refine ⟨_, rfl, _, _, rfl, rfl, _, rfl, b, _, rfl, hb3, _, _, rfl, ⟨by omega, by omega, by omega, by omega⟩, ?_⟩
        refine for_range (lo := (i : Int) + 1) (n := (((txs ws).length : Nat) : Int) - ((i : Int) + 1) |>.toNat) (fun j σ G => (∃ z, σ = [some (.ref b), some (.ref a), some (.int (i : Int)), some (.str (txt x)), z]) ∧ G = G3) ⟨⟨_, rfl⟩, rfl⟩ ?_ ?_
        · rintro j σ G4 hj ⟨⟨z, rfl⟩, rfl⟩
          have jw : i + 1 + j < ws.length := by omega
          have hy := List.getElem?_eq_getElem jw
          have fr := ok.free i (i + 1 + j) x _ hw hy (by omega)
          have n1 : Txt.startswith (txt x) (txt ws[i + 1 + j]) = false := by
            cases c : Txt.startswith (txt x) (txt ws[i + 1 + j]) with
            | false => rfl
            | true => exact absurd (sw_iff.mp c) fr.1
          have n2 : Txt.startswith (txt ws[i + 1 + j]) (txt x) = false := by
            cases c : Txt.startswith (txt ws[i + 1 + j]) (txt x) with
            | false => rfl
            | true => exact absurd (sw_iff.mp c) fr.2
          have ej : (i : Int) + 1 + (j : Int) = ((i + 1 + j : Nat) : Int) := by omega
          refine ⟨_, rfl, ⟨_, rfl⟩, _, rfl, _, rfl, hb3.ix ej (txs_at hy) ?_⟩
          refine ⟨_, _, rfl, rfl, _, rfl, ?_⟩
          rw [n1]
          refine iteF ?_
          refine ⟨_, rfl, _, rfl, hb3.ix ej (txs_at hy) ?_⟩
          refine ⟨⟨_, rfl⟩, _, rfl, _, _, rfl, rfl, _, rfl, ?_⟩
          rw [n2]
          exact iteF ⟨⟨_, rfl⟩, rfl⟩
        · rintro σ G4 ⟨⟨z, rfl⟩, rfl⟩
          exact ⟨⟨_, _, _, rfl⟩, s4, s5⟩
      · rintro ρ G2 ⟨⟨y, z, u, rfl⟩, sm2, _⟩
        exact kq _ sm2
end
end Z

set_option Elab.async false
set_option linter.all false
set_option maxRecDepth 100000
set_option maxHeartbeats 8000000
/-! the canonical words -/
namespace Z
open PySem L2 KR
def spCanon (K : PySem.W.Frag) : Sp := fun vs H Q _ => ∃ (a : Addr) (L : List Nat), vs = [.ref a] ∧ SqE K H a (Ls L) ∧ Good L ∧ ∀ p H', H p = none → Same H H' → H' p = some (.lst (txs (cw L))) → Q (.ref p) H'
theorem pr_at (L : List Nat) (i : Nat) : (pr L)[i]? = L[i]?.map fun l => (l, i) := by
  unfold pr
  rw [List.getElem?_zipIdx]
  simp
theorem pr_len (L : List Nat) : (pr L).length = L.length := by simp [pr]
theorem pr_nodup (L : List Nat) : (pr L).Nodup := by
  have h : ((pr L).map Prod.snd).Nodup := by
    unfold pr
    rw [List.zipIdx_map_snd]
    exact List.nodup_range'
  exact List.Pairwise.of_map Prod.snd (fun a b h e => h (by rw [e])) h
theorem cw_at {L : List Nat} {i l : Nat} (h : L[i]? = some l) : (cw L)[i]? = some (word (pr L) (l, i)) := by
  unfold cw
  rw [List.getElem?_map, pr_at, h]
  rfl
theorem cw_len (L : List Nat) : (cw L).length = L.length := by simp [cw, pr_len]
theorem pr_mem {L : List Nat} {r : Pr} (h : r ∈ pr L) : L[r.2]? = some r.1 := by
  unfold pr at h
  exact List.mem_zipIdx_iff_getElem?.mp h
theorem strict {L : List Nat} {S : List Pr} (hp : S.Perm (pr L)) (hs : S.Pairwise fun x y => ltB y x = false) : S.Pairwise fun x y => ltB x y = true := by
  have nd : S.Nodup := hp.nodup_iff.mpr (pr_nodup L)
  refine (hs.and nd).imp fun {x y} h => ?_
  rcases ltB_tri h.2 with k | k
  · exact k
  · rw [h.1] at k; cases k
/-- what a reference to a pair tells -/
def key (G : Hp) : V → Int × Int
  | .ref t => match G t with
    | some (.tup [.int i, .int j]) => (i, j)
    | _ => (0, 0)
  | _ => (0, 0)
theorem key_of {G : Hp} {t : Addr} {i j : Int} (h : G t = some (.tup [.int i, .int j])) : key G (.ref t) = (i, j) := by
  simp only [key, h]
def nat2 (p : Int × Int) : Pr := (p.1.toNat, p.2.toNat)
theorem pad25 {l : Nat} (h : l ≤ 25) : PadOk (l : Int) = true := by
  have : ∀ l : Fin 26, PadOk ((l.val : Nat) : Int) = true := by decide +kernel
  exact this ⟨l, by omega⟩
/-- a sorted list of pairs, cut at i -/
theorem cut {S : List Pr} {i : Nat} {r : Pr} (h : S[i]? = some r) : S = S.take i ++ r :: S.drop (i + 1) ∧ S.take (i + 1) = S.take i ++ [r] ∧ S.drop i = r :: S.drop (i + 1) := by
  obtain ⟨lt, e⟩ := List.getElem?_eq_some_iff.mp h
  have d : S.drop i = r :: S.drop (i + 1) := by rw [← e]; exact List.drop_eq_getElem_cons lt
  refine ⟨?_, ?_, d⟩
  · rw [← d, List.take_append_drop]
  · rw [List.take_succ, h]; rfl
section
variable {P : Program} {w : World} {K : PySem.W.Frag} {mg : Str → Option Value} {base : Heap} {A : Ad}
theorem sc_canon : FnScope ["lengths", "words", "number", "ahead", "length", "sign", "index", "bits"] ["lengths"] (defScope s_canon) := ⟨rfl, rfl, rfl, by decide +kernel, rfl, by decide +kernel, by decide +kernel⟩
theorem ok_canon (T : Txt K mg A) : FnOk P w K mg base CX0 2 A.a_canon A.d_canon ["lengths"] (spCanon K) := by
  refine T.F_canon.ok sc_canon (fun vs H Q E h => ?_) (fun cdv A outer s H vs Q E hr h => ?_)
  · obtain ⟨a, L, rfl, _⟩ := h; rfl
  · obtain ⟨a, L, rfl, ha, G, kq⟩ := h
    have ll := Ls_len L
    have l2 := G.lo
    have l26 := G.hi
    refine ⟨_, (pss_cons (ps_set (i := 1) sc_canon.nd rfl (Or.inl rfl) (pe_op op_rep (pe_lst (pa_cons pe_str pa_nil)) (pe_callB call_len_seq (by rfl) T.z_len PySem.boot_len (pa_cons (pv 0) pa_nil))))
      (pss_cons (ps_set (i := 2) sc_canon.nd rfl (Or.inl rfl) pe_int)
      (pss_cons (ps_set (i := 3) sc_canon.nd rfl (Or.inl rfl) pe_int)
      (pss_cons (ps_for PassesOwn.never rfl (pi_list (pe_callB cr_sortedPO (by rfl) T.z_sorted (by decide +kernel) (pa_cons (pe_lc (own := [("index", 6), ("bits", 7)]) (by rfl) sc_canon.nd (pi_or (pi_enum (by rfl) T.z_enumerate (pa_cons (pv 0) pa_nil)) (pi_enumF (by rfl) T.z_enumerate (pa_cons (pv 0) pa_nil))) (blkOk_by (own := [("index", 6), ("bits", 7)]) (N := ["lengths", "words", "number", "ahead", "length", "sign", "index", "bits"]) (sc := defScope s_canon) (by decide +kernel)) (fun _ _ _ _ _ => (pg_tupK (K := K) (n := 2) rfl (by rfl) (pgs_cons (pg_name (i := 6) sc_canon.nd rfl (Or.inl rfl)) (pgs_cons (pg_name (i := 7) sc_canon.nd rfl (Or.inl rfl)) pgs_nil)))) (fun _ _ _ _ _ => pts_nil) (fun _ _ _ _ _ => (pe_tup (pa_cons (pv 7) (pa_cons (pv 6) pa_nil))))) pa_nil))) (pg_tup (by rfl) (pgs_cons (pg_name (i := 4) sc_canon.nd rfl (Or.inl rfl)) (pgs_cons (pg_name (i := 5) sc_canon.nd rfl (Or.inl rfl)) pgs_nil)))
         (pss_cons (ps_set (i := 2) sc_canon.nd rfl (Or.inl rfl) (pe_op op_shl (pv 2) (pe_op op_sub (pv 4) (pv 3))))
         (pss_cons (ps_asg (pe_m1 PySem.F.slot_str_zfill PySem.F.type_str_zfill mt_zfill (pe_joined1 (pe_fmtB (pv 2))) (pv 4)) (pg_sub (pv 1) (pv 5) set_list))
         (pss_cons (ps_set (i := 2) sc_canon.nd rfl (Or.inl rfl) (pe_op op_add (pv 2) pe_int))
         (pss_one (ps_set (i := 3) sc_canon.nd rfl (Or.inl rfl) (pv 4)))))))
      (pss_one (ps_ret (pv 1))))))), ?_⟩
    refine ⟨(by show 1 ≤ sizeLine; decide), fun p0 np0 => ?_⟩
    have s0 := same_new (o := .lst [V.str ""]) np0
    have e0 : upd H p0 (.lst [V.str ""]) p0 = some (.lst [V.str ""]) := upd_same
    generalize upd H p0 (.lst [V.str ""]) = H0 at s0 e0 ⊢
    refine ⟨_, rfl, a, _, rfl, ha.same s0, p0, _, _, rfl, rfl, e0, by omega, by omega, by show 1 * _ ≤ sizeLine; rw [sizeLine_eq]; omega, fun q nq => ?_⟩
    have nqH : H q = none := s0.free nq
    have eq1 : upd H0 q (.lst (List.replicate ((((Ls L).length : Nat) : Int)).toNat [V.str ""]).flatten) q = some (.lst (List.replicate L.length (V.str ""))) := by
      rw [upd_same, Int.toNat_natCast, ll]
      have : ∀ n : Nat, (List.replicate n [V.str ""]).flatten = List.replicate n (V.str "") := fun n => by
        induction n with
        | zero => rfl
        | succ n ih => rw [List.replicate_succ, List.flatten_cons, ih]; rfl
      rw [this]
    have s1 := s0.trans (same_new (o := .lst (List.replicate ((((Ls L).length : Nat) : Int)).toNat [V.str ""]).flatten) nq)
    generalize upd H0 q (.lst (List.replicate ((((Ls L).length : Nat) : Int)).toNat [V.str ""]).flatten) = H1 at s1 eq1 ⊢
    refine enum_read (a := a) (xs := Ls L) rfl (lc_enumE (ha.same s1) (fun D i G => Same H1 G ∧ ∃ ps : List Addr, G D = some (.lst (ps.map V.ref)) ∧ ps.length = i ∧ ∀ (j : Nat) (p : Addr), ps[j]? = some p → ∃ l : Nat, L[j]? = some l ∧ G p = some (.tup [.int (l : Int), .int (j : Int)])) (fun _ _ _ h => h.1) (fun D hD => ⟨same_new hD, [], upd_same, rfl, fun j p e => nomatch e⟩) ?_ ?_)
    · rintro D i x G1 T hD hx ⟨sm, ps, hps, hlen, hp⟩ nT
      obtain ⟨l, hl, rfl⟩ := Ls_of hx
      refine ⟨T, _, rfl, SqT.of upd_same, rfl, _, _, rfl, _, _, rfl, rfl, rfl, yes_of ?_⟩
      have sT := same_new (o := .tup [.int (i : Int), .int (l : Int)]) nT
      have smT := sm.trans sT
      have hpsT := sT _ _ hps
      have hpT : ∀ (j : Nat) (p : Addr), ps[j]? = some p → ∃ m : Nat, L[j]? = some m ∧ upd G1 T (.tup [.int (i : Int), .int (l : Int)]) p = some (.tup [.int (m : Int), .int (j : Int)]) := fun j p e => by
        obtain ⟨l', h1, h2⟩ := hp j p e
        exact ⟨l', h1, sT _ _ h2⟩
      generalize upd G1 T (.tup [.int (i : Int), .int (l : Int)]) = G2 at smT hpsT hpT ⊢
      refine ⟨_, rfl, _, rfl, (by show 2 ≤ sizeLine; decide), fun t nt => ?_⟩
      have st := same_new (o := .tup [V.int (l : Int), .int (i : Int)]) nt
      have ht : upd G2 t (.tup [V.int (l : Int), .int (i : Int)]) t = some (.tup [V.int (l : Int), .int (i : Int)]) := upd_same
      have sm3 := smT.trans st
      have hps3 := st _ _ hpsT
      refine ⟨_, hps3, by rw [List.length_map, hlen, sizeLine_eq]; have := (List.getElem?_eq_some_iff.mp hl).1; omega, fun b o e => by rw [upd_ne (ne_of_none e hD)]; exact sm3 _ _ e, ps ++ [t], by rw [List.map_append]; exact upd_same, by rw [List.length_append, hlen]; rfl, fun j p e => ?_⟩
      have ne : ∀ (p : Addr) (u v : V), upd G2 t (.tup [V.int (l : Int), .int (i : Int)]) p = some (.tup [u, v]) → upd (upd G2 t (.tup [V.int (l : Int), .int (i : Int)])) D (.lst (ps.map V.ref ++ [V.ref t])) p = some (.tup [u, v]) := fun p u v e => by
        rw [upd_ne (ne_of e hps3 (fun z => nomatch z))]; exact e
      rw [List.getElem?_append] at e
      split at e
      · obtain ⟨l', h1, h2⟩ := hpT j p e
        exact ⟨l', h1, ne _ _ _ (st _ _ h2)⟩
      · rename_i c
        have j0 : j - ps.length = 0 := by
          have := (List.getElem?_eq_some_iff.mp e).1
          simp at this; omega
        rw [j0] at e
        obtain rfl := Option.some.inj e
        have ji : j = i := by omega
        subst ji
        exact ⟨l, hl, ne _ _ _ ht⟩
    · rintro D G1 hD ⟨sm, ps, hps, hlen, hp⟩
      rw [ll] at hlen
      have kx : ∀ x ∈ ps.map V.ref, ∃ t, x = V.ref t ∧ G1 t = some (.tup [.int (key G1 x).1, .int (key G1 x).2]) := fun x hx => by
        obtain ⟨t, ht, rfl⟩ := List.mem_map.mp hx
        obtain ⟨j, hj, e⟩ := List.getElem_of_mem ht
        obtain ⟨l, _, h⟩ := hp j t (by rw [List.getElem?_eq_getElem hj, e])
        exact ⟨t, rfl, by rw [key_of h]; exact h⟩
      refine ⟨D, ps.map V.ref, key G1, rfl, SqL.of hps, kx, fun ys p srt stb np => ?_⟩
      have nqG : ∀ o, G1 q = some o → q ≠ p := fun o e => ne_of_none e np
      have eqG := sm _ _ eq1
      have s2 : Same H G1 := s1.trans sm
      have sp := same_new (o := .lst ys) np
      -- the pairs, in their order
      have back : ∀ y ∈ ys, ∃ (t : Addr) (l j : Nat), y = .ref t ∧ G1 t = some (.tup [.int (l : Int), .int (j : Int)]) ∧ key G1 y = ((l : Int), (j : Int)) := fun y hy => by
        obtain ⟨t, ht, rfl⟩ := List.mem_map.mp (stb.perm.mem_iff.mp hy)
        obtain ⟨j, hj, e⟩ := List.getElem_of_mem ht
        obtain ⟨l, _, h⟩ := hp j t (by rw [List.getElem?_eq_getElem hj, e])
        exact ⟨t, l, j, rfl, h, key_of h⟩
      obtain ⟨S, hS⟩ : ∃ S, S = ys.map fun y => nat2 (key G1 y) := ⟨_, rfl⟩
      have hperm : S.Perm (pr L) := by
        have h1 : S.Perm ((ps.map V.ref).map fun y => nat2 (key G1 y)) := by rw [hS]; exact stb.perm.map _
        have h2 : ((ps.map V.ref).map fun y => nat2 (key G1 y)) = pr L := by
          apply List.ext_getElem?
          intro j
          rw [List.map_map, List.getElem?_map, pr_at]
          by_cases c : j < L.length
          · have c2 : j < ps.length := by omega
            obtain ⟨l, h3, h4⟩ := hp j _ (List.getElem?_eq_getElem c2)
            rw [List.getElem?_eq_getElem c2, h3]
            show some (nat2 (key G1 (.ref ps[j]))) = some (l, j)
            rw [key_of h4]
            rfl
          · rw [List.getElem?_eq_none (by omega), List.getElem?_eq_none (by omega)]
            rfl
        rw [h2] at h1
        exact h1
      have hsort : S.Pairwise fun x y => ltB y x = false := by
        rw [hS]
        refine List.pairwise_map.mpr (List.Pairwise.imp_of_mem (fun {x y} hx hy h => ?_) srt)
        obtain ⟨t, l, j, rfl, _, k1⟩ := back x hx
        obtain ⟨t', l', j', rfl, _, k2⟩ := back y hy
        cases c : ltB (nat2 (key G1 (.ref t'))) (nat2 (key G1 (.ref t))) with
        | false => rfl
        | true =>
          have h : SrtO.lexB (key G1 (.ref t')) (key G1 (.ref t)) = false := h
          rw [k1, k2] at c
          rw [k1, k2] at h
          have c2 := ltB_iff.mp c
          have : SrtO.lexB ((l' : Int), (j' : Int)) ((l : Int), (j : Int)) = true := SrtO.lexB_iff.mpr (by
            have c3 : l' < l ∨ l' = l ∧ j' < j := c2
            show (l' : Int) < l ∨ (l' : Int) = l ∧ (j' : Int) < j
            omega)
          rw [h] at this; cases this
      have hst := strict hperm hsort
      have lS : S.length = ys.length := by rw [hS, List.length_map]
      refine ⟨p, rfl, ⟨ys, SqL.of upd_same⟩, ?_⟩
      have e3 : upd G1 p (.lst ys) p = some (.lst ys) := upd_same
      have s3 := s2.trans sp
      have eq3 := sp _ _ eqG
      have tup3 : ∀ t u v, G1 t = some (.tup [u, v]) → upd G1 p (.lst ys) t = some (.tup [u, v]) := fun t u v e => sp _ _ e
      have qp := nqG _ eqG
      generalize upd G1 p (.lst ys) = G3 at e3 s3 eq3 tup3 ⊢
      refine for_list (K := K) (a := p) (xs := ys) (fun i σ G => (∃ (num ah : Nat) (z4 z5 z6 z7 : Option V) (vs : List V), σ = [some (.ref a), some (.ref q), some (.int (num : Int)), some (.int (ah : Int)), z4, z5, z6, z7] ∧ num = acc (S.take i) ah ∧ (∀ r ∈ S.take i, r.1 ≤ ah) ∧ (∀ r ∈ S.drop i, ah ≤ r.1) ∧ G q = some (.lst vs) ∧ vs.length = L.length ∧
        ∀ r ∈ S.take i, vs[r.2]? = some (.str (txt (word (pr L) r)))) ∧ But q G3 G) ⟨⟨0, 0, none, none, none, none, _, rfl, rfl, fun r h => (by cases h), fun r h => Nat.zero_le _, eq3, List.length_replicate, fun r h => (by cases h)⟩, But.of (Same.refl G3)⟩ (fun i σ G _ h => SqL.of (h.2 _ _ qp.symm e3)) ?_ ?_
      · rintro i y σ G4 hy ⟨⟨num, ah, z4, z5, z6, z7, vs, rfl, hnum, hlo, hhi, hq, hvs, hw⟩, bt⟩
        obtain ⟨t, l, j, rfl, ht, hk⟩ := back y (List.mem_of_getElem? hy)
        have hSi : S[i]? = some (l, j) := by rw [hS, List.getElem?_map, hy]; show some (nat2 (key G1 (.ref t))) = _; rw [hk]; rfl
        obtain ⟨c1, c2, c3⟩ := cut hSi
        have hin : (l, j) ∈ pr L := hperm.mem_iff.mp (List.mem_of_getElem? hSi)
        have hLj : L[j]? = some l := pr_mem hin
        have hjl : j < L.length := (List.getElem?_eq_some_iff.mp hLj).1
        have rl := G.at hLj
        have hal : ah ≤ l := hhi (l, j) (by rw [c3]; exact List.mem_cons_self ..)
        have hsh : num * 2 ^ (l - ah) = acc (S.take i) l := by rw [hnum]; exact acc_shift hlo hal
        have hnl : acc (S.take i) l = KR.num (pr L) (l, j) := by
          rw [← num_perm hperm]
          exact (num_sorted (p := (l, j)) hst c1).symm
        have hlt : acc (S.take i) l < 2 ^ l := by rw [hnl]; exact num_lt G.kr hin
        have h25 : 2 ^ l ≤ 2 ^ 25 := Nat.pow_le_pow_right (by decide) rl.2
        have hsm : num ≤ acc (S.take i) l := by rw [← hsh]; exact Nat.le_mul_of_pos_right _ (Nat.pow_pos (by decide))
        have n25 : num < 2 ^ 25 := by omega
        have ht4 : G4 t = some (.tup [.int (l : Int), .int (j : Int)]) := bt _ _ (ne_of (tup3 _ _ _ ht) eq3 (fun z => nomatch z)) (tup3 _ _ _ ht)
        have esh : (num : Int) * 2 ^ ((l : Int) - (ah : Int)).toNat = ((acc (S.take i) l : Nat) : Int) := by
          rw [← hsh, show ((l : Int) - (ah : Int)).toNat = l - ah by omega]
          norm_cast
        refine ⟨t, _, rfl, SqT.of ht4, rfl, _, _, rfl, _, _, rfl, rfl, ?_⟩
        refine ⟨_, rfl, _, rfl, _, rfl, _, _, rfl, rfl, _, _, rfl, rfl, ⟨by omega, by omega, by rw [Int.natAbs_natCast]; omega⟩, ?_⟩
        refine ⟨_, rfl, acc (S.take i) l, congrArg V.int esh, ?_, ?_⟩
        · exact Nat.le_trans (bin_len rl.1 hlt) (by rw [sizeLine_eq]; omega)
        refine ⟨⟨_, rfl⟩, _, rfl, _, _, rfl, rfl, pad25 rl.2, ?_⟩
        rw [zfill_bin rl.1 hlt]
        have ej : ixN vs.length ((j : Nat) : Int) = some j := by
          unfold ixN
          rw [if_pos (by omega), if_pos (by omega), Int.toNat_natCast]
        refine ⟨_, rfl, _, rfl, q, vs, _, j, rfl, rfl, hq, ej, ?_⟩
        refine ⟨_, rfl, _, _, rfl, rfl, _, rfl, ?_⟩
        have en : (((acc (S.take i) l + 1 : Nat)) : Int) = (num : Int) * 2 ^ ((l : Int) - (ah : Int)).toNat + 1 := by rw [esh]; rfl
        refine ⟨⟨acc (S.take i) l + 1, l, some (.int (l : Int)), some (.int (j : Int)), z6, z7, vs.set j (.str (txt (bitsL l (acc (S.take i) l)))), ?_, ?_, ?_, ?_, upd_same, ?_, ?_⟩, But.upd bt⟩
        · rw [en]; rfl
        · rw [c2]; exact (acc_snoc (S.take i) (l, j)).symm
        · intro r hr
          rw [c2] at hr
          rcases List.mem_append.mp hr with hr | hr
          · exact Nat.le_trans (hlo r hr) hal
          · rw [List.mem_singleton.mp hr]; exact Nat.le_refl _
        · intro r hr
          have h0 := hst
          rw [c1, List.pairwise_append] at h0
          have h1 := (List.pairwise_cons.mp h0.2.1).1 r hr
          have := ltB_iff.mp h1
          show l ≤ r.1
          have h2 : l < r.1 ∨ l = r.1 ∧ j < r.2 := this
          omega
        · rw [List.length_set]; exact hvs
        · intro r hr
          rw [c2] at hr
          rcases List.mem_append.mp hr with hr | hr
          · have h0 := hst
            rw [c1, List.pairwise_append] at h0
            have h1 := ltB_iff.mp (h0.2.2 r hr (l, j) (List.mem_cons_self ..))
            have hrp : r ∈ pr L := hperm.mem_iff.mp (by rw [c1]; exact List.mem_append_left _ hr)
            have hne : j ≠ r.2 := fun e => by
              have h2 := pr_mem hrp
              rw [← e, hLj] at h2
              have h3 : l = r.1 := Option.some.inj h2
              have h4 : r.1 < l ∨ r.1 = l ∧ r.2 < j := h1
              omega
            rw [List.getElem?_set_ne hne]
            exact hw r hr
          · rw [List.mem_singleton.mp hr, List.getElem?_set_self (by omega), hnl]
            rfl
      · rintro σ G4 ⟨⟨num, ah, z4, z5, z6, z7, vs, rfl, hnum, hlo, hhi, hq, hvs, hw⟩, bt⟩
        have ev : vs = txs (cw L) := by
          apply List.ext_getElem?
          intro j
          by_cases c : j < L.length
          · have hl := List.getElem?_eq_getElem c
            have hin : (L[j], j) ∈ S.take ys.length := by
              rw [← lS, List.take_length]
              refine hperm.mem_iff.mpr (List.mem_of_getElem? (i := j) ?_)
              rw [pr_at, hl]; rfl
            rw [hw _ hin, txs_at (cw_at hl)]
          · rw [List.getElem?_eq_none (by omega), List.getElem?_eq_none (by rw [txs_len, cw_len]; omega)]
        rw [ev] at hq
        refine ⟨_, rfl, kq q G4 nqH (fun b o e => bt b o (ne_of_none e nqH) (s3 b o e)) hq⟩
end
end Z

set_option Elab.async false
set_option linter.all false
set_option maxRecDepth 100000
set_option maxHeartbeats 8000000
/-! Code -/
namespace Z
open PySem L2 KR
def tw (L : List Nat) : List (List Nat) := (cw L).map turned
theorem cw_of {L : List Nat} {i : Nat} {x : List Nat} (h : (cw L)[i]? = some x) : ∃ l, L[i]? = some l ∧ x = word (pr L) (l, i) ∧ (l, i) ∈ pr L := by
  unfold cw at h
  rw [List.getElem?_map, pr_at, Option.map_map, Option.map_eq_some_iff] at h
  obtain ⟨l, e, rfl⟩ := h
  refine ⟨l, e, rfl, List.mem_of_getElem? (i := i) ?_⟩
  rw [pr_at, e]; rfl
theorem cw_ok {L : List Nat} (G : Good L) : WOk (cw L) L where
  len := cw_len L
  bit := fun i x l hx hl => by
    obtain ⟨l', h1, rfl, _⟩ := cw_of hx
    rw [hl] at h1
    obtain rfl := Option.some.inj h1
    exact ⟨word_len _ _, bits_01 _ _⟩
  free := fun i j x y hx hy hij => by
    obtain ⟨l, h1, rfl, m1⟩ := cw_of hx
    obtain ⟨k, h2, rfl, m2⟩ := cw_of hy
    refine ⟨fun e => ?_, fun e => ?_⟩
    · have := congrArg Prod.snd (word_free G.kr m1 m2 e)
      have : i = j := this
      omega
    · have := congrArg Prod.snd (word_free G.kr m2 m1 e)
      have : j = i := this
      omega
theorem tw_of {L : List Nat} {i : Nat} {x : List Nat} (h : (tw L)[i]? = some x) : ∃ l, L[i]? = some l ∧ x = turned (word (pr L) (l, i)) ∧ (l, i) ∈ pr L := by
  unfold tw at h
  rw [List.getElem?_map, Option.map_eq_some_iff] at h
  obtain ⟨y, e, rfl⟩ := h
  obtain ⟨l, h1, rfl, h2⟩ := cw_of e
  exact ⟨l, h1, rfl, h2⟩
theorem tw_ok {L : List Nat} (G : Good L) : WOk (tw L) L where
  len := by unfold tw; rw [List.length_map]; exact cw_len L
  bit := fun i x l hx hl => by
    obtain ⟨l', h1, rfl, _⟩ := tw_of hx
    rw [hl] at h1
    obtain rfl := Option.some.inj h1
    refine ⟨?_, turned_01 (bits_01 _ _)⟩
    unfold turned
    rw [List.length_map]; exact word_len _ _
  free := fun i j x y hx hy hij => by
    obtain ⟨l, h1, rfl, m1⟩ := tw_of hx
    obtain ⟨k, h2, rfl, m2⟩ := tw_of hy
    refine ⟨fun e => ?_, fun e => ?_⟩
    · have := congrArg Prod.snd (turned_free G.kr m1 m2 e)
      have : i = j := this
      omega
    · have := congrArg Prod.snd (turned_free G.kr m2 m1 e)
      have : j = i := this
      omega
def IsMax (m : Int) (L : List Nat) : Prop := m ∈ L.map (fun (l : Nat) => (l : Int)) ∧ ∀ y ∈ L.map (fun (l : Nat) => (l : Int)), y ≤ m
theorem IsMax.uniq {m n : Int} {L : List Nat} (a : IsMax m L) (b : IsMax n L) : m = n := Int.le_antisymm (b.2 m a.1) (a.2 n b.1)
def flds (pw pl : Addr) (L : List Nat) (m : Int) : List (Str × V) := [("words", .ref pw), ("lengths", .ref pl), ("size", .int ((L.length : Nat) : Int)), ("longest", .int m)]
/-- the words that a Code is given, or none -/
def Given (K : PySem.W.Frag) (H : Hp) (v : V) (ws : List (List Nat)) (L : List Nat) : Prop := (v = .non ∧ ws = cw L) ∨ (∃ b, v = .ref b ∧ SqE K H b (txs ws) ∧ WOk ws L)
def spInit (K : PySem.W.Frag) (C : Addr) : Sp := fun vs H Q _ => ∃ (x dx a : Addr) (v : V) (L : List Nat) (ws : List (List Nat)), vs = [.ref x, .ref a, v] ∧ H x = some (.ins C dx []) ∧ SqE K H a (Ls L) ∧ Good L ∧ Given K H v ws L ∧
  ∀ H' pw pl m, But x H H' → H' x = some (.ins C dx (flds pw pl L m)) → SqT K H' pw (txs ws) → SqT K H' pl (Ls L) → IsMax m L → Q .non H'
theorem SqT.but {K : PySem.W.Frag} {H G : Hp} {x C dx p : Addr} {fs : List (Str × V)} {xs : List V} (hx : H x = some (.ins C dx fs)) (bt : But x H G) (h : SqT K H p xs) : SqT K G p xs := by
  rcases h with (h | ⟨o, h⟩) | h
  · exact .inl (.inl (bt _ _ (ne_of h hx (fun z => nomatch z)) h))
  · exact .inl (.inr ⟨o, bt _ _ (ne_of h hx (fun z => nomatch z)) h⟩)
  · exact .inr h
theorem SqE.but {K : PySem.W.Frag} {H G : Hp} {x C dx p : Addr} {fs : List (Str × V)} {xs : List V} (hx : H x = some (.ins C dx fs)) (bt : But x H G) (h : SqE K H p xs) : SqE K G p xs := by
  rcases h with h | h
  · rcases h with (h | ⟨o, h⟩) | h
    · exact .inl (.inl (.inl (bt _ _ (ne_of h hx (fun z => nomatch z)) h)))
    · exact .inl (.inl (.inr ⟨o, bt _ _ (ne_of h hx (fun z => nomatch z)) h⟩))
    · exact .inl (.inr h)
  · exact .inr (SqT.but hx bt h)
theorem put1 (u : V) : putF "words" u [] = [(("words" : Str), u)] := by kernel_rfl
theorem put2 (u v : V) : putF "lengths" v [(("words" : Str), u)] = [(("words" : Str), u), ("lengths", v)] := by kernel_rfl
theorem put3 (u v z : V) : putF "size" z [(("words" : Str), u), ("lengths", v)] = [(("words" : Str), u), ("lengths", v), ("size", z)] := by kernel_rfl
theorem put4 (u v z y : V) : putF "longest" y [(("words" : Str), u), ("lengths", v), ("size", z)] = [(("words" : Str), u), ("lengths", v), ("size", z), ("longest", y)] := by kernel_rfl
section
variable {P : Program} {w : World} {K : PySem.W.Frag} {mg : Str → Option Value} {base : Heap} {A : Ad}
theorem sc_init : FnScope ["self", "lengths", "words"] ["self", "lengths", "words"] (defScope s_init) := ⟨rfl, rfl, rfl, by decide +kernel, rfl, by decide +kernel, by decide +kernel⟩
theorem ok_init (T : Txt K mg A) : FnOk P w K mg base CX0 3 A.a_init A.d_init ["self", "lengths", "words"] (spInit K A.c) := by
  have G_lens := ok_lens (P := P) (w := w) (base := base) T
  have G_canon := ok_canon (P := P) (w := w) (base := base) T
  have G_cwords := ok_cwords (P := P) (w := w) (base := base) T
  have Co := T.Co
  refine T.F_init.ok sc_init (fun vs H Q E h => ?_) (fun cdv Ar outer s H vs Q E hr h => ?_)
  · obtain ⟨x, dx, a, v, L, ws, rfl, _⟩ := h; rfl
  · obtain ⟨x, dx, a, v, L, ws, rfl, hx, ha, G, hv, kq⟩ := h
    refine ⟨_, (pss_cons (ps_expr (pe_call G_lens (hr.mono (by decide)) (by rfl) T.g_lens T.F_lens.kp T.b_lens .nil pass0 (pa_cons (pv 1) pa_nil)))
      (pss_cons (ps_if (pt_cmpR op_isN (pv 2) pe_non (nomark _)) (pss_one (ps_fld (pv 0) (pe_callTy call_tupE (by rfl) T.z_tuple (by decide +kernel) (pa_cons (pe_call G_canon (hr.mono (by decide)) (by rfl) T.g_canon T.F_canon.kp T.b_canon .nil pass0 (pa_cons (pv 1) pa_nil)) pa_nil)) rfl))
        (pss_cons (ps_expr (pe_call G_cwords (hr.mono (by decide)) (by rfl) T.g_cwords T.F_cwords.kp T.b_cwords .nil pass0 (pa_cons (pv 2) (pa_cons (pv 1) pa_nil))))
       (pss_one (ps_fld (pv 0) (pe_callTy call_tupE (by rfl) T.z_tuple (by decide +kernel) (pa_cons (pv 2) pa_nil)) rfl))))
      (pss_cons (ps_fld (pv 0) (pe_callTy call_tupE (by rfl) T.z_tuple (by decide +kernel) (pa_cons (pv 1) pa_nil)) rfl)
      (pss_cons (ps_fld (pv 0) (pe_callB call_len_seq (by rfl) T.z_len PySem.boot_len (pa_cons (pv 1) pa_nil)) rfl)
      (pss_one (ps_fld (pv 0) (pe_callB (cr_maxE rfl) (by rfl) T.z_max (by decide +kernel) (pa_cons (pv 1) pa_nil)) rfl)))))), ?_⟩
    refine ⟨_, rfl, a, L, rfl, ha, G, fun H1 s1 => ?_⟩
    rcases hv with ⟨rfl, rfl⟩ | ⟨b, rfl, hb, ok⟩
    · refine ⟨_, rfl, rfl, _, rfl, iteT ?_⟩
      refine ⟨_, rfl, a, L, rfl, ha.same s1, G, fun p H2' np s2 hp => ?_⟩
      refine ⟨p, _, rfl, .inl (SqL.of hp), fun pw H2 s2b hp2 => ?_⟩
      have hx2 := s2b _ _ (s2 _ _ (s1 _ _ hx))
      have b2 : But x H H2 := But.of ((s1.trans s2).trans s2b)
      obtain ⟨ws, hws⟩ : ∃ ws, ws = cw L := ⟨_, rfl⟩
      rw [← hws] at hp2 kq
      refine ⟨_, rfl, x, _, dx, _, rfl, hx2, Co.cl, Co.n_words, (by show 0 < 1000; decide), ?_⟩
      rw [put1]
      have b3 : But x H (upd H2 x (.ins A.c dx [("words", .ref pw)])) := But.upd b2
      have hx3 : upd H2 x (.ins A.c dx [("words", V.ref pw)]) x = some (.ins A.c dx [("words", V.ref pw)]) := upd_same
      have hp3 : SqT K (upd H2 x (.ins A.c dx [("words", V.ref pw)])) pw (txs ws) := SqT.but hx2 (But.upd (But.of (Same.refl H2))) hp2
      generalize upd H2 x (.ins A.c dx [("words", V.ref pw)]) = H3 at b3 hx3 hp3 ⊢
      refine ⟨_, rfl, a, _, rfl, SqE.but hx b3 ha, fun pl H4 s4 hl4 => ?_⟩
      refine ⟨_, rfl, x, _, dx, _, rfl, s4 _ _ hx3, Co.cl, Co.n_lengths, (by show 1 < 1000; decide), ?_⟩
      rw [put2]
      have b5 : But x H (upd H4 x (.ins A.c dx [("words", V.ref pw), ("lengths", V.ref pl)])) := But.upd (b3.trans (But.of s4))
      have hx5 : upd H4 x (.ins A.c dx [("words", V.ref pw), ("lengths", V.ref pl)]) x = some (.ins A.c dx [("words", V.ref pw), ("lengths", V.ref pl)]) := upd_same
      have hp5 := SqT.but (s4 _ _ hx3) (But.upd (o := .ins A.c dx [("words", V.ref pw), ("lengths", V.ref pl)]) (But.of (Same.refl H4))) (SqT.ext hp3 s4)
      have hl5 := SqT.but (s4 _ _ hx3) (But.upd (o := .ins A.c dx [("words", V.ref pw), ("lengths", V.ref pl)]) (But.of (Same.refl H4))) hl4
      generalize upd H4 x (.ins A.c dx [("words", V.ref pw), ("lengths", V.ref pl)]) = H5 at b5 hx5 hp5 hl5 ⊢
      refine ⟨_, rfl, a, _, rfl, SqE.but hx b5 ha, ?_⟩
      refine ⟨_, rfl, x, _, dx, _, rfl, hx5, Co.cl, Co.n_size, (by show 2 < 1000; decide), ?_⟩
      rw [put3]
      have b6 : But x H (upd H5 x (.ins A.c dx [("words", V.ref pw), ("lengths", V.ref pl), ("size", .int (((Ls L).length : Nat) : Int))])) := But.upd b5
      have hx6 : upd H5 x (.ins A.c dx [("words", V.ref pw), ("lengths", V.ref pl), ("size", .int (((Ls L).length : Nat) : Int))]) x = some (.ins A.c dx [("words", V.ref pw), ("lengths", V.ref pl), ("size", .int (((Ls L).length : Nat) : Int))]) := upd_same
      have hp6 := SqT.but hx5 (But.upd (o := .ins A.c dx [("words", V.ref pw), ("lengths", V.ref pl), ("size", .int (((Ls L).length : Nat) : Int))]) (But.of (Same.refl H5))) hp5
      have hl6 := SqT.but hx5 (But.upd (o := .ins A.c dx [("words", V.ref pw), ("lengths", V.ref pl), ("size", .int (((Ls L).length : Nat) : Int))]) (But.of (Same.refl H5))) hl5
      generalize upd H5 x (.ins A.c dx [("words", V.ref pw), ("lengths", V.ref pl), ("size", .int (((Ls L).length : Nat) : Int))]) = H6 at b6 hx6 hp6 hl6 ⊢
      refine ⟨_, rfl, a, _, rfl, SqE.but hx b6 ha, by rw [List.length_map]; have := G.lo; omega, fun m hm1 hm2 => ?_⟩
      refine ⟨_, rfl, x, _, dx, _, rfl, hx6, Co.cl, Co.n_longest, (by show 3 < 1000; decide), ?_⟩
      rw [put4]
      refine kq _ pw pl m (But.upd b6) ?_ (SqT.but hx6 (But.upd (But.of (Same.refl H6))) hp6) (SqT.but hx6 (But.upd (But.of (Same.refl H6))) hl6) ⟨hm1, hm2⟩
      rw [upd_same]
      unfold flds
      rw [Ls_len]
    · refine ⟨_, rfl, rfl, _, rfl, iteF ?_⟩
      refine ⟨_, rfl, _, rfl, b, a, ws, L, rfl, hb.same s1, ha.same s1, G, ok, fun H2' s2 => ?_⟩
      refine ⟨_, rfl, b, _, rfl, (hb.same s1).same s2, fun pw H2 s2b hp2 => ?_⟩
      have hx2 := s2b _ _ (s2 _ _ (s1 _ _ hx))
      have b2 : But x H H2 := But.of ((s1.trans s2).trans s2b)
      refine ⟨_, rfl, x, _, dx, _, rfl, hx2, Co.cl, Co.n_words, (by show 0 < 1000; decide), ?_⟩
      rw [put1]
      have b3 : But x H (upd H2 x (.ins A.c dx [("words", .ref pw)])) := But.upd b2
      have hx3 : upd H2 x (.ins A.c dx [("words", V.ref pw)]) x = some (.ins A.c dx [("words", V.ref pw)]) := upd_same
      have hp3 : SqT K (upd H2 x (.ins A.c dx [("words", V.ref pw)])) pw (txs ws) := SqT.but hx2 (But.upd (But.of (Same.refl H2))) hp2
      generalize upd H2 x (.ins A.c dx [("words", V.ref pw)]) = H3 at b3 hx3 hp3 ⊢
      refine ⟨_, rfl, a, _, rfl, SqE.but hx b3 ha, fun pl H4 s4 hl4 => ?_⟩
      refine ⟨_, rfl, x, _, dx, _, rfl, s4 _ _ hx3, Co.cl, Co.n_lengths, (by show 1 < 1000; decide), ?_⟩
      rw [put2]
      have b5 : But x H (upd H4 x (.ins A.c dx [("words", V.ref pw), ("lengths", V.ref pl)])) := But.upd (b3.trans (But.of s4))
      have hx5 : upd H4 x (.ins A.c dx [("words", V.ref pw), ("lengths", V.ref pl)]) x = some (.ins A.c dx [("words", V.ref pw), ("lengths", V.ref pl)]) := upd_same
      have hp5 := SqT.but (s4 _ _ hx3) (But.upd (o := .ins A.c dx [("words", V.ref pw), ("lengths", V.ref pl)]) (But.of (Same.refl H4))) (SqT.ext hp3 s4)
      have hl5 := SqT.but (s4 _ _ hx3) (But.upd (o := .ins A.c dx [("words", V.ref pw), ("lengths", V.ref pl)]) (But.of (Same.refl H4))) hl4
      generalize upd H4 x (.ins A.c dx [("words", V.ref pw), ("lengths", V.ref pl)]) = H5 at b5 hx5 hp5 hl5 ⊢
      refine ⟨_, rfl, a, _, rfl, SqE.but hx b5 ha, ?_⟩
      refine ⟨_, rfl, x, _, dx, _, rfl, hx5, Co.cl, Co.n_size, (by show 2 < 1000; decide), ?_⟩
      rw [put3]
      have b6 : But x H (upd H5 x (.ins A.c dx [("words", V.ref pw), ("lengths", V.ref pl), ("size", .int (((Ls L).length : Nat) : Int))])) := But.upd b5
      have hx6 : upd H5 x (.ins A.c dx [("words", V.ref pw), ("lengths", V.ref pl), ("size", .int (((Ls L).length : Nat) : Int))]) x = some (.ins A.c dx [("words", V.ref pw), ("lengths", V.ref pl), ("size", .int (((Ls L).length : Nat) : Int))]) := upd_same
      have hp6 := SqT.but hx5 (But.upd (o := .ins A.c dx [("words", V.ref pw), ("lengths", V.ref pl), ("size", .int (((Ls L).length : Nat) : Int))]) (But.of (Same.refl H5))) hp5
      have hl6 := SqT.but hx5 (But.upd (o := .ins A.c dx [("words", V.ref pw), ("lengths", V.ref pl), ("size", .int (((Ls L).length : Nat) : Int))]) (But.of (Same.refl H5))) hl5
      generalize upd H5 x (.ins A.c dx [("words", V.ref pw), ("lengths", V.ref pl), ("size", .int (((Ls L).length : Nat) : Int))]) = H6 at b6 hx6 hp6 hl6 ⊢
      refine ⟨_, rfl, a, _, rfl, SqE.but hx b6 ha, by rw [List.length_map]; have := G.lo; omega, fun m hm1 hm2 => ?_⟩
      refine ⟨_, rfl, x, _, dx, _, rfl, hx6, Co.cl, Co.n_longest, (by show 3 < 1000; decide), ?_⟩
      rw [put4]
      refine kq _ pw pl m (But.upd b6) ?_ (SqT.but hx6 (But.upd (But.of (Same.refl H6))) hp6) (SqT.but hx6 (But.upd (But.of (Same.refl H6))) hl6) ⟨hm1, hm2⟩
      rw [upd_same]
      unfold flds
      rw [Ls_len]
end
end Z

set_option Elab.async false
set_option linter.all false
set_option maxRecDepth 100000
set_option maxHeartbeats 8000000
/-! Code's own == -/
namespace Z
open PySem L2 KR PyProof.Rows
def dws (ws : List (List Nat)) : List PyData := ws.map fun x => PyData.str (txt x)
def dLs (L : List Nat) : List PyData := (L.map fun (l : Nat) => (l : Int)).map PyData.int
theorem dp_ws {K : PySem.W.Frag} {H : Hp} : ∀ ws : List (List Nat), DpAll K H (txs ws) (dws ws)
  | [] => .nil
  | x :: ws => .cons (.str _) (dp_ws ws)
theorem dp_Ls {K : PySem.W.Frag} {H : Hp} (L : List Nat) : DpAll K H (Ls L) (dLs L) := dp_ints _
theorem lay_ws : ∀ ws : List (List Nat), (∀ x ∈ ws, PyData.strOk (txt x) = true) → PyData.canLayAll0 (dws ws) = true ∧ PyData.depthAll (dws ws) = 0
  | [], _ => by simp [dws, PyData.canLayAll0, PyData.depthAll]
  | x :: ws, h => by
    obtain ⟨h1, h2⟩ := lay_ws ws fun y hy => h y (List.mem_cons_of_mem _ hy)
    have h0 := h x (List.mem_cons_self ..)
    unfold dws at h1 h2 ⊢
    simp [PyData.canLayAll0, PyData.canLay0, PyData.depthAll, PyData.depth, h1, h2, h0]
theorem shaped_ws (ws : List (List Nat)) (h : ∀ x ∈ ws, PyData.strOk (txt x) = true) : SeqAt.shaped (.tuple (dws ws)) = true := by
  obtain ⟨h1, h2⟩ := lay_ws ws h
  simp [SeqAt.shaped, PyData.canLay0, PyData.depth, h1, h2]
theorem shaped_Ls (L : List Nat) : SeqAt.shaped (.tuple (dLs L)) = true := by
  obtain ⟨h1, h2⟩ := lay_ints (L.map fun (l : Nat) => (l : Int))
  unfold dLs
  generalize (L.map fun (l : Nat) => (l : Int)).map PyData.int = ds at h1 h2 ⊢
  simp [SeqAt.shaped, PyData.canLay0, PyData.depth, h1, h2]
theorem shaped_LsL (L : List Nat) : SeqAt.shaped (.list (dLs L)) = true := shaped_ints _
theorem evc (x y : PyData) (xs ys : List PyData) : PyData.eqvAll (x :: xs) (y :: ys) = (PyData.eqv x y && PyData.eqvAll xs ys) := by rw [PyData.eqvAll]
theorem all_ws : ∀ ws vs : List (List Nat), PyData.eqvAll (dws ws) (dws vs) = decide (ws = vs)
  | [], [] => by simp [dws, PyData.eqvAll]
  | [], y :: vs => by simp [dws, PyData.eqvAll]
  | x :: ws, [] => by simp [dws, PyData.eqvAll]
  | x :: ws, y :: vs => by
    have ih := all_ws ws vs
    unfold dws at ih ⊢
    rw [List.map_cons, List.map_cons, evc, ih]
    by_cases e : x = y
    · subst e
      simp [PyData.eqv]
    · have : txt x ≠ txt y := fun z => e (txt_inj z)
      simp [PyData.eqv, e, this]
theorem all_Ls : ∀ L M : List Nat, PyData.eqvAll (dLs L) (dLs M) = decide (L = M)
  | [], [] => by simp [dLs, PyData.eqvAll]
  | [], y :: vs => by simp [dLs, PyData.eqvAll]
  | x :: ws, [] => by simp [dLs, PyData.eqvAll]
  | x :: ws, y :: vs => by
    have ih := all_Ls ws vs
    unfold dLs at ih ⊢
    rw [List.map_cons, List.map_cons, List.map_cons, List.map_cons, evc, ih]
    by_cases e : x = y
    · subst e
      simp [PyData.eqv]
    · have : ((x : Nat) : Int) ≠ (y : Int) := by omega
      simp [PyData.eqv, e, this]
theorem eqv_ws (ws vs : List (List Nat)) : PyData.eqv (.tuple (dws ws)) (.tuple (dws vs)) = decide (ws = vs) := by rw [PyData.eqv]; exact all_ws ws vs
theorem eqv_Ls (L M : List Nat) : PyData.eqv (.tuple (dLs L)) (.tuple (dLs M)) = decide (L = M) := by rw [PyData.eqv]; exact all_Ls L M
theorem eqv_LsL (L M : List Nat) : PyData.eqv (.list (dLs L)) (.list (dLs M)) = decide (L = M) := by rw [PyData.eqv]; exact all_Ls L M
theorem bit_ok {x : List Nat} (h : ∀ c ∈ x, c = 48 ∨ c = 49) : PyData.strOk (txt x) = true := by
  unfold PyData.strOk txt
  rw [Array.all_eq_true']
  intro c hc
  have := h c (by simpa using hc)
  simp only [decide_eq_true_eq]
  omega
theorem WOk.ok {ws : List (List Nat)} {L : List Nat} (h : WOk ws L) : ∀ x ∈ ws, PyData.strOk (txt x) = true := fun x hx => by
  obtain ⟨i, hi, e⟩ := List.getElem_of_mem hx
  have il : i < L.length := by rw [← h.len]; exact hi
  exact bit_ok (h.bit i x _ (by rw [List.getElem?_eq_getElem hi, e]) (List.getElem?_eq_getElem il)).2
def CodeAt (K : PySem.W.Frag) (H : Hp) (C a : Addr) (ws : List (List Nat)) (L : List Nat) : Prop := ∃ dx pw pl m, H a = some (.ins C dx (flds pw pl L m)) ∧ SqT K H pw (txs ws) ∧ SqT K H pl (Ls L) ∧ IsMax m L ∧ ∀ x ∈ ws, PyData.strOk (txt x) = true
theorem lk_words (pw pl : Addr) (L : List Nat) (m : Int) : (flds pw pl L m).lookup ("words" : Str) = some (V.ref pw) := by kernel_rfl
theorem lk_lengths (pw pl : Addr) (L : List Nat) (m : Int) : (flds pw pl L m).lookup ("lengths" : Str) = some (V.ref pl) := by kernel_rfl
theorem lk_size (pw pl : Addr) (L : List Nat) (m : Int) : (flds pw pl L m).lookup ("size" : Str) = some (V.int ((L.length : Nat) : Int)) := by kernel_rfl
theorem lk_longest (pw pl : Addr) (L : List Nat) (m : Int) : (flds pw pl L m).lookup ("longest" : Str) = some (V.int m) := by kernel_rfl
theorem tyT {K : PySem.W.Frag} {H : Hp} {b : Addr} {zs : List V} (h : SqT K H b zs) : TyX K H (.ref b) (.type "tuple") := by
  rcases h with (h | ⟨o, h⟩) | ⟨o, its, n, h, c, _⟩
  · exact .base (.tup h)
  · exact .fTuple h
  · exact .kTuple h c
def spEq (K : PySem.W.Frag) (C : Addr) : Sp := fun vs H Q _ => ∃ (a : Addr) (ws : List (List Nat)) (L : List Nat) (y : V), vs = [.ref a, y] ∧ CodeAt K H C a ws L ∧
  ((∃ b ws' L', y = .ref b ∧ CodeAt K H C b ws' L' ∧ Q (.bl (decide (ws = ws'))) H) ∨ (∃ b zs, y = .ref b ∧ SqT K H b zs ∧ Q (.bl false) H))
section
variable {P : Program} {w : World} {K : PySem.W.Frag} {mg : Str → Option Value} {base : Heap} {A : Ad}
theorem sc_eq : FnScope ["self", "other"] ["self", "other"] (defScope s_eq) := ⟨rfl, rfl, rfl, by decide +kernel, rfl, by decide +kernel, by decide +kernel⟩
theorem ok_eq (T : Txt K mg A) : FnOk P w K mg base CX0 1 A.a_eq A.d_eq ["self", "other"] (spEq K A.c) := by
  have Co := T.Co
  refine T.F_eq.ok sc_eq (fun vs H Q E h => ?_) (fun cdv Ar outer s H vs Q E hr h => ?_)
  · obtain ⟨a, ws, L, y, rfl, _⟩ := h; rfl
  · obtain ⟨a, ws, L, y, rfl, ⟨dx, pw, pl, m, ha, hw, hl, hm, ho⟩, h⟩ := h
    refine ⟨_, (pss_one (ps_ret (pe_and (pe_callB call_isi (by rfl) T.z_isinstance (by decide +kernel) (pa_cons (pv 1) (pa_cons (pe_glob (v := .ref _) rfl T.g_Code rfl) pa_nil))) (pe_one (pe_cmpR (op_eqD hr.units) (pe_fld (pv 0) rfl) (pe_fld (pv 1) rfl) (nomark _)))))), ?_⟩
    rcases h with ⟨b, ws', L', rfl, ⟨dx', pw', pl', m', ha', hw', hl', hm', ho'⟩, kq⟩ | ⟨b, zs, rfl, hz, kq⟩
    · refine ⟨_, rfl, .ref b, .ref A.c, .ref A.c, .ref A.c, true, rfl, .own A.c, .base (.ins ha' Co.cl Co.ha Co.hn Co.ht Co.hm), Co.kc, ?_⟩
      refine ⟨true, rfl, iteT ?_⟩
      refine ⟨_, rfl, a, _, dx, _, _, rfl, ha, Co.cl, Co.n_words, lk_words _ _ _ _, ?_⟩
      refine ⟨_, rfl, b, _, dx', _, _, rfl, ha', Co.cl, Co.n_words, lk_words _ _ _ _, ?_⟩
      refine ⟨.tuple (dws ws), .tuple (dws ws'), .tup hw (dp_ws ws), .tup hw' (dp_ws ws'), shaped_ws _ ho, shaped_ws _ ho', ?_⟩
      rw [eqv_ws]
      exact kq
    · refine ⟨_, rfl, .ref b, .ref A.c, .type "tuple", .ref A.c, false, rfl, .own A.c, tyT hz, Co.kt, ?_⟩
      exact ⟨false, rfl, iteF kq⟩
end
end Z

set_option Elab.async false
set_option linter.all false
set_option maxRecDepth 100000
set_option maxHeartbeats 8000000
/-! the law's lengths and words -/
namespace Z
open PySem L2 KR
theorem sum_set : ∀ (L : List Nat) (i x : Nat) (h : i < L.length), (L.set i x).sum + L[i] = L.sum + x
  | y :: L, 0, x, _ => by simp; omega
  | y :: L, i + 1, x, h => by
    have := sum_set L i x (by simpa using h)
    simp at this ⊢
    omega
def wsum (L : List Nat) : Nat := (L.map fun l => 2 ^ (25 - l)).sum
theorem wsum_step {L : List Nat} {i : Nat} (h : i < L.length) (hl : L[i] ≤ 24) : wsum (L.set i (L[i] + 1) ++ [L[i] + 1]) = wsum L := by
  unfold wsum
  rw [List.map_append, List.sum_append, List.map_set]
  have h' : i < (L.map fun l => 2 ^ (25 - l)).length := by rw [List.length_map]; exact h
  have := sum_set (L.map fun l => 2 ^ (25 - l)) i (2 ^ (25 - (L[i] + 1))) h'
  rw [List.getElem_map] at this
  have e : 2 ^ (25 - L[i]) = 2 ^ (25 - (L[i] + 1)) + 2 ^ (25 - (L[i] + 1)) := by
    rw [show 25 - L[i] = (25 - (L[i] + 1)) + 1 by omega, Nat.pow_succ]; omega
  simp only [List.map_cons, List.map_nil, List.sum_cons, List.sum_nil] at this ⊢
  omega
theorem good_of {L : List Nat} (h1 : 2 ≤ L.length) (h2 : L.length ≤ 26) (hs : wsum L = 2 ^ 25) (hb : ∀ l ∈ L, 1 ≤ l ∧ l ≤ 25) : Good L where
  lo := h1
  hi := h2
  kr := ⟨by rw [pr_fst L fun l => 2 ^ (25 - l)]; exact hs, fun q hq => hb q.1 (List.mem_of_getElem? (pr_mem hq))⟩
def spLof : Sp := fun vs H Q _ => ∃ (d lc : Addr) (n k : Nat), vs = [.ref d, .int (n : Int)] ∧ Pen H d lc k ∧ 2 ≤ n ∧ n ≤ 26 ∧ k ≤ 900000 ∧
  ∀ a H' k' L, k' ≤ k + 24 → Pen H' d lc k' → But d H H' → H a = none → H' a = some (.lst (Ls L)) → Good L → L.length = n → Q (.ref a) H'
section
variable {P : Program} {w : World} {K : PySem.W.Frag} {mg : Str → Option Value} {base : Heap} {A : Ad}
theorem sc_lof : FnScope ["_law_pen", "_law_many", "_law_found", "_law_k", "_law_at"] ["_law_pen", "_law_many"] (defScope s_lof) := ⟨rfl, rfl, rfl, by decide +kernel, rfl, by decide +kernel, by decide +kernel⟩
theorem ok_lof (T : Txt K mg A) : FnOk P w K mg base CX0 2 A.a_lof A.d_lof ["_law_pen", "_law_many"] spLof := by
  have G_draw := ok_draw (P := P) (w := w) (base := base) T
  refine T.F_lof.ok sc_lof (fun vs H Q E h => ?_) (fun cdv Ar outer s H vs Q E hr h => ?_)
  · obtain ⟨d, lc, n, k, rfl, _⟩ := h; rfl
  · obtain ⟨d, lc, n, k, rfl, pen, n2, n26, hk, kq⟩ := h
    refine ⟨_, (pss_cons (ps_set (i := 2) sc_lof.nd rfl (Or.inl rfl) (pe_lst (pa_cons pe_int (pa_cons pe_int pa_nil))))
      (pss_cons (ps_for PassesOwn.never rfl (pi_range1 (by rfl) T.z_range (pa_cons (pe_op op_sub (pv 1) pe_int) pa_nil)) (pg_name (i := 3) sc_lof.nd rfl (Or.inl rfl))
         (pss_cons (ps_set (i := 4) sc_lof.nd rfl (Or.inl rfl) (pe_call G_draw (hr.mono (by decide)) (by rfl) T.g_draw T.F_draw.kp T.b_draw .nil pass0 (pa_cons (pv 0) (pa_cons (pe_callB call_len_seq (by rfl) T.z_len PySem.boot_len (pa_cons (pv 2) pa_nil)) pa_nil))))
         (pss_cons (ps_asg (pe_op op_add (pe_ix ix_list (pv 2) (pv 4) (fun _ _ => rfl)) pe_int) (pg_sub (pv 2) (pv 4) set_list))
         (pss_one (ps_expr (pe_bm PySem.F.plainAttrs_list PySem.F.slot_list_append PySem.F.type_list_append mt_append (pv 2) (pa_cons (pe_ix ix_list (pv 2) (pv 4) (fun _ _ => rfl)) pa_nil)))))))
      (pss_one (ps_ret (pv 2))))), ?_⟩
    refine ⟨(by show 2 ≤ sizeLine; decide), fun p np => ?_⟩
    have s1 := same_new (o := .lst [V.int 1, .int 1]) np
    have e1 : upd H p (.lst [V.int 1, .int 1]) p = some (.lst (Ls [1, 1])) := upd_same
    have pen1 := pen.same s1
    obtain ⟨xc, hxc⟩ := pen.cells
    obtain ⟨xd, hxd⟩ := pen.some
    have dp : d ≠ p := ne_of_none hxd np
    have lp : lc ≠ p := ne_of_none hxc np
    generalize upd H p (.lst [V.int 1, .int 1]) = H1 at s1 e1 pen1 ⊢
    refine ⟨_, rfl, _, _, rfl, rfl, _, rfl, by omega, by omega, ?_⟩
    refine for_range (lo := 0) (n := ((n : Int) - 2).toNat) (fun j σ G => ∃ (L : List Nat) (k' : Nat) (z4 z5 : Option V), σ = [some (.ref d), some (.int (n : Int)), some (.ref p), z4, z5] ∧ k' ≤ k + j ∧ Pen G d lc k' ∧ But d H G ∧ G p = some (.lst (Ls L)) ∧ L.length = j + 2 ∧ (∀ l ∈ L, 1 ≤ l ∧ l ≤ j + 1) ∧ wsum L = 2 ^ 25)
      ⟨[1, 1], k, _, _, rfl, Nat.le_refl _, pen1, But.of s1, e1, rfl, fun l hl => by simp at hl; omega, by decide⟩ ?_ ?_
    · rintro j σ G1 hj ⟨L, k', z4, z5, rfl, hk', pn, bt, hp, len, hb, hs⟩
      have ll := Ls_len L
      refine ⟨_, rfl, _, rfl, p, _, rfl, .inl (SqL.of hp), d, lc, _, k', rfl, pn, by omega, by omega, by omega, fun v G2 k2 v0 v1 kk pn2 bt2 => ?_⟩
      obtain ⟨x0, pe⟩ := pn.some
      have hp2 : G2 p = some (.lst (Ls L)) := bt2 _ _ (ne_of hp pe (fun z => nomatch z)) hp
      obtain ⟨i, rfl⟩ : ∃ i : Nat, v = (i : Int) := ⟨v.toNat, (Int.toNat_of_nonneg v0).symm⟩
      have il : i < L.length := by omega
      have hLi := List.getElem?_eq_getElem il
      have rb := hb _ (List.getElem_mem il)
      have eix : ixN (Ls L).length ((i : Nat) : Int) = some i := by
        unfold ixN
        rw [if_pos (by omega), if_pos (by omega), Int.toNat_natCast]
      refine ⟨_, rfl, _, rfl, p, _, _, _, rfl, rfl, SqL.of hp2, at_of rfl (Ls_at hLi), _, _, rfl, rfl, ?_⟩
      refine ⟨_, rfl, _, rfl, p, _, _, i, rfl, rfl, hp2, eix, ?_⟩
      have es : (Ls L).set i (.int ((L[i] : Nat) + 1 : Int)) = Ls (L.set i (L[i] + 1)) := by
        unfold Ls
        rw [List.map_set, List.map_set]
        rfl
      rw [es]
      have e3 : upd G2 p (.lst (Ls (L.set i (L[i] + 1)))) p = some (.lst (Ls (L.set i (L[i] + 1)))) := upd_same
      have hL2 : (L.set i (L[i] + 1))[i]? = some (L[i] + 1) := List.getElem?_set_self il
      refine ⟨_, rfl, .inl ⟨rfl, _, SqL.of e3⟩, _, rfl, _, rfl, p, _, _, _, rfl, rfl, SqL.of e3, at_of rfl (Ls_at hL2), p, _, _, rfl, rfl, e3, by rw [Ls_len, List.length_set, sizeLine_eq]; omega, ?_⟩
      refine ⟨L.set i (L[i] + 1) ++ [L[i] + 1], k2, some (.int (0 + (j : Int))), some (.int (i : Int)), rfl, by omega, (pn2.upd dp lp).upd dp lp, fun b o nb e => ?_, ?_, ?_, ?_, ?_⟩
      · have nbp : b ≠ p := ne_of_none e np
        rw [upd_ne nbp, upd_ne nbp]
        exact bt2 _ _ nb (bt _ _ nb e)
      · rw [upd_same]
        unfold Ls
        rw [List.map_append, List.map_append]
        rfl
      · rw [List.length_append, List.length_set, len]; rfl
      · intro l hl
        rcases List.mem_append.mp hl with hl | hl
        · rcases List.mem_or_eq_of_mem_set hl with hl | hl
          · have := hb l hl; omega
          · omega
        · have := List.mem_singleton.mp hl; omega
      · rw [wsum_step il (by omega)]; exact hs
    · rintro σ G1 ⟨L, k', z4, z5, rfl, hk', pn, bt, hp, len, hb, hs⟩
      have e : ((n : Int) - 2).toNat = n - 2 := by omega
      rw [e] at hk' len hb
      refine ⟨_, rfl, kq p G1 k' L (by omega) pn bt np hp (good_of (by omega) (by omega) hs fun l hl => ?_) (by omega)⟩
      have := hb l hl
      omega
end
theorem lex2 (a b c d : Nat) : HT.lexLt [(a : Int), (b : Int)] [(c : Int), (d : Int)] = ltB (a, b) (c, d) := by
  unfold ltB HT.lexLt
  by_cases e : a = c
  · subst e
    rw [if_pos rfl]
    unfold HT.lexLt
    by_cases f : b = d
    · subst f
      rw [if_pos rfl]
      unfold HT.lexLt
      simp
    · rw [if_neg (by omega)]
      simp
  · rw [if_neg (by omega)]
    have : ((a : Int) < c) = (a < c) := by simp
    simp [e]
theorem sumF_take {P : List Pr} {c : Pr → Bool} {f : Pr → Nat} {j : Nat} {r : Pr} (h : P[j]? = some r) : sumF (P.take (j + 1)) c f = sumF (P.take j) c f + if c r = true then f r else 0 := by
  unfold sumF
  rw [List.take_succ, h]
  simp only [Option.toList, List.filter_append, List.map_append, List.sum_append]
  congr 1
  by_cases e : c r = true
  · simp [e]
  · simp [e]
theorem digit (n : Nat) : (toString ((n : Int) % 2) : String) = toString ((n : Int) % 2) := rfl
theorem str_bit (n : Nat) : Str.ofString (toString ((n : Int) % 2)) = txt [48 + n % 2] := by
  rcases Nat.mod_two_eq_zero_or_one n with e | e
  · have : (n : Int) % 2 = 0 := by omega
    rw [this, e]; rfl
  · have : (n : Int) % 2 = 1 := by omega
    rw [this, e]; rfl
theorem txt_app (a b : List Nat) : txt a ++ txt b = txt (a ++ b) := by
  refine txt_of ?_
  show ((txt a).cps ++ (txt b).cps).toList = _
  simp [txt]
def spWords (K : PySem.W.Frag) : Sp := fun vs H Q _ => ∃ (a : Addr) (L : List Nat), vs = [.ref a] ∧ SqL K H a (Ls L) ∧ Good L ∧ ∀ p H', Same H H' → SqT K H' p (txs (cw L)) → Q (.ref p) H'
section
variable {P : Program} {w : World} {K : PySem.W.Frag} {mg : Str → Option Value} {base : Heap} {A : Ad}
theorem sc_words : FnScope ["_law_lengths", "_law_found", "_law_sign", "_law_size", "_law_number", "_law_other", "_law_bits", "_law_turn"] ["_law_lengths"] (defScope s_words) := ⟨rfl, rfl, rfl, by decide +kernel, rfl, by decide +kernel, by decide +kernel⟩
theorem ok_words (T : Txt K mg A) : FnOk P w K mg base CX0 2 A.a_words A.d_words ["_law_lengths"] (spWords K) := by
  have G_two := ok_two (P := P) (w := w) (base := base) T
  refine T.F_words.ok sc_words (fun vs H Q E h => ?_) (fun cdv Ar outer s H vs Q E hr h => ?_)
  · obtain ⟨a, L, rfl, _⟩ := h; rfl
  · obtain ⟨a, L, rfl, ha, G, kq⟩ := h
    have ll := Ls_len L
    have l26 := G.hi
    refine ⟨_, (pss_cons (ps_set (i := 1) sc_words.nd rfl (Or.inl rfl) (pe_lst pa_nil))
      (pss_cons (ps_for PassesOwn.never rfl (pi_range1 (by rfl) T.z_range (pa_cons (pe_callB call_len_seq (by rfl) T.z_len PySem.boot_len (pa_cons (pv 0) pa_nil)) pa_nil)) (pg_name (i := 2) sc_words.nd rfl (Or.inl rfl))
         (pss_cons (ps_par (i := 3) (j := 4) (by rfl) sc_words.nd rfl rfl (by decide) rfl rfl (pa_cons (pe_ix ix_list (pv 0) (pv 2) (fun _ _ => rfl)) (pa_cons pe_int pa_nil)) (by rfl))
         (pss_cons (ps_for PassesOwn.never rfl (pi_range1 (by rfl) T.z_range (pa_cons (pe_callB call_len_seq (by rfl) T.z_len PySem.boot_len (pa_cons (pv 0) pa_nil)) pa_nil)) (pg_name (i := 5) sc_words.nd rfl (Or.inl rfl))
            (pss_one (ps_if (pt_cmpR (op_ltT hr.units0) (pe_tup (pa_cons (pe_ix ix_list (pv 0) (pv 5) (fun _ _ => rfl)) (pa_cons (pv 5) pa_nil))) (pe_tup (pa_cons (pv 3) (pa_cons (pv 2) pa_nil))) (nomark _)) (pss_one (ps_set (i := 4) sc_words.nd rfl (Or.inl rfl) (pe_op op_add (pv 4) (pe_call G_two (hr.mono (by decide)) (by rfl) T.g_two T.F_two.kp T.b_two .nil pass0 (pa_cons (pe_op op_sub (pv 3) (pe_ix ix_list (pv 0) (pv 5) (fun _ _ => rfl))) pa_nil)))))
              pss_nil)))
         (pss_cons (ps_set (i := 6) sc_words.nd rfl (Or.inl rfl) pe_str)
         (pss_cons (ps_for PassesOwn.never rfl (pi_range1 (by rfl) T.z_range (pa_cons (pv 3) pa_nil)) (pg_name (i := 7) sc_words.nd rfl (Or.inl rfl))
            (pss_one (ps_par (i := 6) (j := 4) (by rfl) sc_words.nd rfl rfl (by decide) rfl rfl (pa_cons (pe_op op_add_str (pe_callTy call_str_int (by rfl) T.z_str (by decide +kernel) (pa_cons (pe_op op_mod (pe_callTy call_int1 (by rfl) T.z_int (by decide +kernel) (pa_cons (pv 4) pa_nil)) pe_int) pa_nil)) (pv 6)) (pa_cons (pe_op op_fdiv (pv 4) pe_int) pa_nil)) (by rfl))))
         (pss_one (ps_expr (pe_bm PySem.F.plainAttrs_list PySem.F.slot_list_append PySem.F.type_list_append mt_append (pv 1) (pa_cons (pv 6) pa_nil)))))))))
      (pss_one (ps_ret (pe_callTy call_tupE (by rfl) T.z_tuple (by decide +kernel) (pa_cons (pv 1) pa_nil)))))), ?_⟩
    refine ⟨Nat.zero_le _, fun p np => ?_⟩
    have s1 := same_new (o := .lst []) np
    have e1 : upd H p (.lst []) p = some (.lst []) := upd_same
    generalize upd H p (.lst []) = H1 at s1 e1 ⊢
    have keepL : ∀ G1 : Hp, But p H G1 → SqL K G1 a (Ls L) := fun G1 bt => (show Same H G1 from fun b o e => bt b o (ne_of_none e np) e).seq ha
    refine ⟨_, rfl, a, _, rfl, .inl (s1.seq ha), _, rfl, by omega, by omega, ?_⟩
    refine for_range (lo := 0) (n := (((Ls L).length : Nat) : Int).toNat) (fun j σ G1 => (∃ z2 z3 z4 z5 z6 z7, σ = [some (.ref a), some (.ref p), z2, z3, z4, z5, z6, z7]) ∧ But p H G1 ∧ G1 p = some (.lst (txs ((cw L).take j)))) ⟨⟨_, _, _, _, _, _, rfl⟩, But.of s1, e1⟩ ?_ ?_
    · rintro j σ G1 hj ⟨⟨z2, z3, z4, z5, z6, z7, rfl⟩, bt, hp⟩
      have jl : j < L.length := by omega
      have hLj := List.getElem?_eq_getElem jl
      have rl := G.at hLj
      have e0 : (0 : Int) + (j : Int) = (j : Int) := Int.zero_add _
      have hcw := cw_at hLj
      have hin : (L[j], j) ∈ pr L := List.mem_of_getElem? (i := j) (by rw [pr_at, hLj]; rfl)
      refine ⟨_, rfl, _, rfl, a, _, _, _, rfl, rfl, keepL _ bt, at_of e0 (Ls_at hLj), _, _, rfl, ?_⟩
      refine ⟨_, rfl, a, _, rfl, .inl (keepL _ bt), _, rfl, by omega, by omega, ?_⟩
      refine for_range (lo := 0) (n := (((Ls L).length : Nat) : Int).toNat) (fun i σ G2 => (∃ z5 z6 z7, σ = [some (.ref a), some (.ref p), some (.int (0 + (j : Int))), some (.int ((L[j] : Nat) : Int)), some (.int ((sumF ((pr L).take i) (fun q => ltB q (L[j], j)) (fun q => 2 ^ (L[j] - q.1)) : Nat) : Int)), z5, z6, z7]) ∧ But p H G2 ∧ G2 p = some (.lst (txs ((cw L).take j)))) ⟨⟨_, _, _, rfl⟩, bt, hp⟩ ?_ ?_
      · rintro i σ G2 hi ⟨⟨z5, z6, z7, rfl⟩, bt2, hp2⟩
        have il : i < L.length := by omega
        have hLi := List.getElem?_eq_getElem il
        have ri := G.at hLi
        have e0i : (0 : Int) + (i : Int) = (i : Int) := Int.zero_add _
        have hpi : (pr L)[i]? = some (L[i], i) := by rw [pr_at, hLi]; rfl
        have st := sumF_take (c := fun q => ltB q (L[j], j)) (f := fun q => 2 ^ (L[j] - q.1)) hpi
        refine ⟨_, rfl, _, rfl, a, _, _, _, rfl, rfl, keepL _ bt2, at_of e0i (Ls_at hLi), _, rfl, (by show 2 ≤ sizeLine; decide), fun t nt => ?_⟩
        have b3 : But p H (upd G2 t (.tup [.int ((L[i] : Nat) : Int), .int (0 + (i : Int))])) := But.trans bt2 (But.of (same_new nt))
        have t3 : upd G2 t (.tup [.int ((L[i] : Nat) : Int), .int (0 + (i : Int))]) t = some (.tup [.int ((L[i] : Nat) : Int), .int (0 + (i : Int))]) := upd_same
        have p3 := same_new (o := .tup [V.int ((L[i] : Nat) : Int), .int (0 + (i : Int))]) nt _ _ hp2
        generalize upd G2 t (.tup [.int ((L[i] : Nat) : Int), .int (0 + (i : Int))]) = G3 at b3 t3 p3 ⊢
        refine ⟨_, rfl, _, rfl, (by show 2 ≤ sizeLine; decide), fun u nu => ?_⟩
        have su := same_new (o := .tup [V.int ((L[j] : Nat) : Int), .int (0 + (j : Int))]) nu
        have b4 := But.trans b3 (But.of su)
        have t4 := su _ _ t3
        have p4 := su _ _ p3
        have u4 : upd G3 u (.tup [.int ((L[j] : Nat) : Int), .int (0 + (j : Int))]) u = some (.tup [.int ((L[j] : Nat) : Int), .int (0 + (j : Int))]) := upd_same
        generalize upd G3 u (.tup [.int ((L[j] : Nat) : Int), .int (0 + (j : Int))]) = G4 at b4 t4 p4 u4 ⊢
        refine ⟨t, u, [((L[i] : Nat) : Int), 0 + (i : Int)], [((L[j] : Nat) : Int), 0 + (j : Int)], rfl, rfl, SqT.of t4, SqT.of u4, _, rfl, ?_⟩
        rw [e0i, e0, lex2]
        cases c : ltB (L[i], i) (L[j], j) with
        | false =>
          refine iteF ⟨⟨some (.int (i : Int)), z6, z7, ?_⟩, b4, p4⟩
          rw [st, c]
          rfl
        | true =>
          have cl := ltB_iff.mp c
          have cl : L[i] < L[j] ∨ L[i] = L[j] ∧ i < j := cl
          have sub : ((L[j] : Nat) : Int) - ((L[i] : Nat) : Int) = ((L[j] - L[i] : Nat) : Int) := by omega
          refine iteT ⟨_, rfl, _, rfl, _, rfl, _, rfl, a, _, _, _, rfl, rfl, keepL _ b4, at_of rfl (Ls_at hLi), _, _, rfl, rfl, L[j] - L[i], by rw [← sub]; rfl, by omega, _, _, rfl, rfl, ⟨some (.int (i : Int)), z6, z7, ?_⟩, b4, p4⟩
          rw [st, c]
          rfl
      · rintro σ G2 ⟨⟨z5, z6, z7, rfl⟩, bt2, hp2⟩
        have en : (((Ls L).length : Nat) : Int).toNat = (pr L).length := by rw [pr_len]; omega
        rw [en, List.take_length]
        have hN : (sumF (pr L) (fun q => ltB q (L[j], j)) fun q => 2 ^ (L[j] - q.1)) = KR.num (pr L) (L[j], j) := rfl
        rw [hN]
        refine ⟨_, rfl, _, rfl, by omega, by omega, ?_⟩
        refine for_range (lo := 0) (n := (((L[j] : Nat) : Int)).toNat) (fun i σ G3 => (∃ (m : Nat) (tl : List Nat) (z5 z7 : Option V), σ = [some (.ref a), some (.ref p), some (.int (0 + (j : Int))), some (.int ((L[j] : Nat) : Int)), some (.int (m : Int)), z5, some (.str (txt tl)), z7] ∧ tl.length = i ∧ bitsL L[j] (KR.num (pr L) (L[j], j)) = bitsL (L[j] - i) m ++ tl) ∧ G3 = G2) ⟨⟨KR.num (pr L) (L[j], j), [], z5, z7, rfl, rfl, by simp⟩, rfl⟩ ?_ ?_
        · rintro i σ G3 hi ⟨⟨m, tl, z5', z7', rfl, htl, hb⟩, rfl⟩
          have il : i < L[j] := by omega
          obtain ⟨r, hr'⟩ : ∃ r, L[j] - i = r + 1 := ⟨L[j] - i - 1, by omega⟩
          refine ⟨_, rfl, .inl ⟨_, rfl, _, _, rfl, rfl, (by decide : (0 : Int) < 2), ?_⟩⟩
          have lg : ((m : Int) % 2).natAbs.log2 < 1920 := by
            have : (m : Int) % 2 = 0 ∨ (m : Int) % 2 = 1 := by omega
            rcases this with e | e <;> rw [e] <;> decide
          refine ⟨_, rfl, lg, _, rfl, _, _, rfl, rfl, ?_, ?_⟩
          · rw [str_bit, txt_len, txt_len, sizeLine_eq, htl]
            show 1 + i ≤ _
            omega
          · rw [str_bit, txt_app]
            have ed : (m : Int) / 2 = ((m / 2 : Nat) : Int) := by omega
            refine ⟨_, rfl, _, _, rfl, rfl, ⟨by decide, by decide⟩, _, _, rfl, ⟨m / 2, [48 + m % 2] ++ tl, z5', some (.int (0 + (i : Int))), ?_, ?_, ?_⟩, rfl⟩
            · rw [← ed]; rfl
            · rw [List.length_append, htl]; show 1 + i = i + 1; omega
            · rw [hb, hr', show L[j] - (i + 1) = r by omega]
              show (bitsL r (m / 2) ++ [48 + m % 2]) ++ tl = _
              rw [List.append_assoc]
        · rintro σ G3 ⟨⟨m, tl, z5', z7', rfl, htl, hb⟩, rfl⟩
          have e2 : L[j] - (((L[j] : Nat) : Int)).toNat = 0 := by omega
          rw [e2] at hb
          have hw : txt tl = txt (word (pr L) (L[j], j)) := by
            unfold word
            rw [hb]; rfl
          rw [hw]
          refine ⟨_, rfl, .inl ⟨rfl, _, SqL.of hp2⟩, _, rfl, p, _, _, rfl, rfl, hp2, ?_, ⟨_, _, _, _, _, _, rfl⟩, But.trans bt2 (But.upd (fun _ _ _ e => e)), ?_⟩
          · rw [txs_len, List.length_take, cw_len, sizeLine_eq]; omega
          · rw [upd_same, List.take_succ, hcw]
            unfold txs
            rw [List.map_append]
            rfl
    · rintro σ G1 ⟨⟨z2, z3, z4, z5, z6, z7, rfl⟩, bt, hp⟩
      have e : (((Ls L).length : Nat) : Int).toNat = (cw L).length := by rw [cw_len]; omega
      rw [e, List.take_length] at hp
      exact ⟨_, rfl, p, _, rfl, .inl (SqL.of hp), fun q G2 s2 hq => kq q G2 (fun b o e => s2 b o (bt b o (ne_of_none e np) e)) hq⟩
end
end Z

set_option Elab.async false
set_option linter.all false
set_option maxRecDepth 100000
set_option maxHeartbeats 8000000
/-! the law -/
namespace Z
open PySem L2 KR PyProof.Rows
theorem CodeAt.same {K : PySem.W.Frag} {H G : Hp} {C a : Addr} {ws : List (List Nat)} {L : List Nat} (h : CodeAt K H C a ws L) (s : Same H G) : CodeAt K G C a ws L := by
  obtain ⟨dx, pw, pl, m, h1, h2, h3, h4⟩ := h
  exact ⟨dx, pw, pl, m, s _ _ h1, SqT.ext h2 s, SqT.ext h3 s, h4⟩
theorem SqT.updl {K : PySem.W.Frag} {H : Hp} {q p : Addr} {zs xs : List V} {u : HO} (hq : H q = some (.lst zs)) (h : SqT K H p xs) : SqT K (upd H q u) p xs := by
  rcases h with (h | ⟨o, h⟩) | h
  · exact .inl (.inl (by rw [upd_ne (ne_of h hq (fun z => nomatch z))]; exact h))
  · exact .inl (.inr ⟨o, by rw [upd_ne (ne_of h hq (fun z => nomatch z))]; exact h⟩)
  · exact .inr h
theorem CodeAt.updl {K : PySem.W.Frag} {H : Hp} {C a q : Addr} {ws : List (List Nat)} {L : List Nat} {zs : List V} {u : HO} (hq : H q = some (.lst zs)) (h : CodeAt K H C a ws L) : CodeAt K (upd H q u) C a ws L := by
  obtain ⟨dx, pw, pl, m, h1, h2, h3, h4⟩ := h
  exact ⟨dx, pw, pl, m, by rw [upd_ne (ne_of h1 hq (fun z => nomatch z))]; exact h1, SqT.updl hq h2, SqT.updl hq h3, h4⟩
theorem SqT.butd {K : PySem.W.Frag} {H G : Hp} {d p : Addr} {kvs : List (Key × V)} {xs : List V} (hd : H d = some (.dK kvs)) (bt : But d H G) (h : SqT K H p xs) : SqT K G p xs := by
  rcases h with (h | ⟨o, h⟩) | h
  · exact .inl (.inl (bt _ _ (ne_of h hd (fun z => nomatch z)) h))
  · exact .inl (.inr ⟨o, bt _ _ (ne_of h hd (fun z => nomatch z)) h⟩)
  · exact .inr h
theorem CodeAt.butd {K : PySem.W.Frag} {H G : Hp} {C a d : Addr} {ws : List (List Nat)} {L : List Nat} {kvs : List (Key × V)} (hd : H d = some (.dK kvs)) (bt : But d H G) (h : CodeAt K H C a ws L) : CodeAt K G C a ws L := by
  obtain ⟨dx, pw, pl, m, h1, h2, h3, h4⟩ := h
  exact ⟨dx, pw, pl, m, bt _ _ (ne_of h1 hd (fun z => nomatch z)) h1, SqT.butd hd bt h2, SqT.butd hd bt h3, h4⟩
theorem make_read {K : PySem.W.Frag} {H1 : Hp} {C a : Addr} {v : V} {L : List Nat} {ws : List (List Nat)} {Qd : Addr → Hp → Prop} {E : XK} (ha : SqE K H1 a (Ls L)) (G : Good L) (hv : Given K H1 v ws L)
    (q : ∀ x G1, H1 x = none → Same H1 G1 → CodeAt K G1 C x ws L → Qd x G1) : ∀ x dx, H1 x = none → H1 dx = none → dx ≠ x → spInit K C [.ref x, .ref a, v] (upd (upd H1 dx (.own x)) x (.ins C dx [])) (fun v H2 => v = .non ∧ Qd x H2) E := fun x dx nx ndx ne => by
  have s1 : Same H1 (upd (upd H1 dx (.own x)) x (.ins C dx [])) := fun b o e => by
    rw [upd_ne (ne_of_none e nx), upd_ne (ne_of_none e ndx)]; exact e
  have hok : ∀ y ∈ ws, PyData.strOk (txt y) = true := by
    rcases hv with ⟨_, rfl⟩ | ⟨_, _, _, h⟩
    · exact (cw_ok G).ok
    · exact h.ok
  refine ⟨x, dx, a, v, L, ws, rfl, upd_same, ha.same s1, G, ?_, fun G1 pw pl m bt hx hw hl hm => ⟨rfl, q x G1 nx (fun b o e => bt b o (ne_of_none e nx) (s1 b o e)) ⟨dx, pw, pl, m, hx, hw, hl, hm, hok⟩⟩⟩
  rcases hv with h | ⟨b, h1, h2, h3⟩
  · exact .inl h
  · exact .inr ⟨b, h1, h2.same s1, h3⟩
def spE2 (K : PySem.W.Frag) (C : Addr) : Sp := fun vs H Q E => spEq K C (vs ++ []) H Q E
section
variable {K : PySem.W.Frag} {C a b fI fE : Addr} {H : Hp} {ws vs : List (List Nat)} {L M : List Nat} {Q : VK} {E : XK}
theorem CodeAt.ty (h : CodeAt K H C b ws L) : BTy K H (.ref b) (.ref C) := by
  obtain ⟨dx, pw, pl, m, h1, _⟩ := h
  exact .inl ⟨b, dx, _, C, rfl, h1, rfl⟩
theorem ne_read (Co : Cc K C fI fE) (h : CodeAt K H C a ws L) (h2 : CodeAt K H C b vs M) (q : Q (.bl (!decide (ws = vs))) H) : rNeI K C (spE2 K C) E (.ref a) (.ref b) H Q := by
  obtain ⟨dx, pw, pl, m, h1, _⟩ := id h
  exact ⟨a, dx, _, _, rfl, h1, h2.ty, Co.nfc, a, ws, L, .ref b, rfl, h, .inl ⟨b, vs, M, rfl, h2, _, rfl, q⟩⟩
theorem eq_read (Co : Cc K C fI fE) (h : CodeAt K H C a ws L) (h2 : CodeAt K H C b vs M) (q : Q (.bl (decide (ws = vs))) H) : rEqI K C (spE2 K C) E (.ref a) (.ref b) H Q := by
  obtain ⟨dx, pw, pl, m, h1, _⟩ := id h
  exact ⟨a, dx, _, _, rfl, h1, h2.ty, Co.nfc, a, ws, L, .ref b, rfl, h, .inl ⟨b, vs, M, rfl, h2, q⟩⟩
theorem eq_tup (Co : Cc K C fI fE) {zs : List V} (h : CodeAt K H C a ws L) (h2 : SqT K H b zs) (q : Q (.bl false) H) : rEqI K C (spE2 K C) E (.ref a) (.ref b) H Q := by
  obtain ⟨dx, pw, pl, m, h1, _⟩ := id h
  exact ⟨a, dx, _, _, rfl, h1, .inr ⟨b, zs, rfl, h2, rfl⟩, Co.nft, a, ws, L, .ref b, rfl, h, .inr ⟨b, zs, rfl, h2, q⟩⟩
theorem words_eq {L M : List Nat} (h : cw L = cw M) : L = M := by
  apply List.ext_getElem?
  intro i
  have hl : L.length = M.length := by rw [← cw_len L, ← cw_len M, h]
  by_cases c : i < L.length
  · have h1 := List.getElem?_eq_getElem c
    have h2 := List.getElem?_eq_getElem (show i < M.length by omega)
    have e1 := cw_at h1
    have e2 := cw_at h2
    rw [h, e2] at e1
    have := congrArg List.length (Option.some.inj e1)
    rw [word_len, word_len] at this
    rw [h1, h2]
    exact congrArg some this.symm
  · rw [List.getElem?_eq_none (by omega), List.getElem?_eq_none (by omega)]
theorem cw_ne_tw {L : List Nat} (G : Good L) : cw L ≠ tw L := fun h => by
  obtain ⟨l, h0⟩ : ∃ l, L[0]? = some l := ⟨_, List.getElem?_eq_getElem (show 0 < L.length by have := G.lo; omega)⟩
  have e1 := cw_at h0
  have e2 : (tw L)[0]? = some (turned (word (pr L) (l, 0))) := by unfold tw; rw [List.getElem?_map, e1]; rfl
  rw [← h, e1] at e2
  have e3 := Option.some.inj e2
  have l0 := word_len (pr L) (l, 0)
  have r := G.at h0
  cases hw : word (pr L) (l, 0) with
  | nil => rw [hw] at l0; simp at l0; omega
  | cons c t =>
    have hc := bits_01 l (KR.num (pr L) (l, 0)) c (by show c ∈ word (pr L) (l, 0); rw [hw]; exact List.mem_cons_self ..)
    rw [hw] at e3
    have : c = KR.flip c := (List.cons.inj e3).1
    unfold KR.flip at this
    omega
end
theorem s0e : Str.ofString "0" = ⟨#[48]⟩ := by kernel_rfl
theorem s1e : Str.ofString "1" = ⟨#[49]⟩ := by kernel_rfl
theorem s2e : Str.ofString "2" = ⟨#[50]⟩ := by kernel_rfl
theorem r1 (l : List Nat) : Txt.replace (txt l) (Str.ofString "0") (Str.ofString "2") = txt (l.map fun x => if x = 48 then 50 else x) := by rw [s0e, s2e]; exact repl_txt 48 50 l
theorem r2 (l : List Nat) : Txt.replace (txt l) (Str.ofString "1") (Str.ofString "0") = txt (l.map fun x => if x = 49 then 48 else x) := by rw [s0e, s1e]; exact repl_txt 49 48 l
theorem tt3 {l : List Nat} (h : ∀ c ∈ l, c = 48 ∨ c = 49) : Txt.replace (Txt.replace (Txt.replace (txt l) (Str.ofString "0") (Str.ofString "2")) (Str.ofString "1") (Str.ofString "0")) (Str.ofString "2") (Str.ofString "1") = txt (turned l) := by
  rw [s0e, s1e, s2e]; exact turn_txt h
theorem rb {l : List Nat} {z : Str} (h : l.length ≤ 25) (hz : z.length = 1) : (txt l).length + ((txt l).length + 1) * z.length ≤ 16777216 := by rw [hz, txt_len]; omega
theorem wsum_good {L : List Nat} (G : Good L) : wsum L = 2 ^ 25 := by
  unfold wsum
  rw [← pr_fst L fun l => 2 ^ (25 - l)]
  exact G.kr.1
theorem good_turn {L : List Nat} (G : Good L) (i : Nat) : Good (L.drop i ++ L.take i) := by
  have p : (L.drop i ++ L.take i).Perm L := by
    have := List.perm_append_comm (l₁ := L.drop i) (l₂ := L.take i)
    rw [List.take_append_drop] at this
    exact this
  have hl := p.length_eq
  refine good_of (by rw [hl]; exact G.lo) (by rw [hl]; exact G.hi) ?_ fun l h => ?_
  · rw [← wsum_good G]
    unfold wsum
    exact (p.map _).sum_nat
  · obtain ⟨j, hj, e⟩ := List.getElem_of_mem (p.mem_iff.mp h)
    exact G.at (i := j) (by rw [List.getElem?_eq_getElem hj, e])
theorem cut_drop (L : List Nat) {i : Nat} (h : i < L.length) : cutV (Ls L) (some (i : Int)) none = Ls (L.drop i) := by
  unfold cutV
  rw [HT.sIx_nat, HT.sIx_none, Ls_len, Nat.min_eq_left (by omega), List.take_of_length_le (by rw [List.length_drop, Ls_len]; exact Nat.le_refl _)]
  unfold Ls
  rw [← List.map_drop, ← List.map_drop]
theorem cut_take (L : List Nat) {i : Nat} (h : i < L.length) : cutV (Ls L) none (some (i : Int)) = Ls (L.take i) := by
  unfold cutV
  rw [HT.sIx_nat, HT.sIx_none, Ls_len, Nat.min_eq_left (by omega), List.drop_zero, Nat.sub_zero]
  unfold Ls
  rw [← List.map_take, ← List.map_take]
structure Fx (K : PySem.W.Frag) (C : Addr) (G : Hp) (d lc c o td a1 wh : Addr) (k : Nat) (L : List Nat) : Prop where
  hc : CodeAt K G C c (cw L) L
  ho : CodeAt K G C o (tw L) L
  hd : SqT K G td (txs (cw L))
  hl : G a1 = some (.lst (Ls L))
  hw : G wh = some (.lst (txs (tw L)))
  pen : Pen G d lc k
theorem Fx.same {K : PySem.W.Frag} {C : Addr} {G G1 : Hp} {d lc c o td a1 wh : Addr} {k : Nat} {L : List Nat} (f : Fx K C G d lc c o td a1 wh k L) (s : Same G G1) : Fx K C G1 d lc c o td a1 wh k L :=
  ⟨f.hc.same s, f.ho.same s, SqT.ext f.hd s, s _ _ f.hl, s _ _ f.hw, f.pen.same s⟩
def spLaw (K : PySem.W.Frag) : Sp := fun vs H Q _ => ∃ (a : Addr) (ns : List Int), vs = [.ref a] ∧ SqL K H a (ns.map V.int) ∧ ns.length ≤ 63 ∧ ∀ H', Q (.bl true) H'
section
variable {P : Program} {w : World} {K : PySem.W.Frag} {mg : Str → Option Value} {base : Heap} {A : Ad}
theorem sc_law : FnScope ["_law_script", "_law_pen", "_law_turn", "_law_many", "_law_lengths", "_law_handed", "_law_due", "_law_turned", "_law_code", "_law_other", "_law_words_here", "_law_at", "_law_more", "_law_word"] ["_law_script"] (defScope s_law) := ⟨rfl, rfl, rfl, by decide +kernel, rfl, by decide +kernel, by decide +kernel⟩
theorem ok_law (T : Txt K mg A) : FnOk P w K mg base CX0 6 A.a_law A.d_law ["_law_script"] (spLaw K) := by
  have G_pen := ok_pen (P := P) (w := w) (base := base) T
  have G_pick := ok_pick (P := P) (w := w) (base := base) T
  have G_draw := ok_draw (P := P) (w := w) (base := base) T
  have G_lof := ok_lof (P := P) (w := w) (base := base) T
  have G_words := ok_words (P := P) (w := w) (base := base) T
  have G_init := ok_init (P := P) (w := w) (base := base) T
  have G_eq := ok_eq (P := P) (w := w) (base := base) T
  have Co := T.Co
  refine T.F_law.ok sc_law (fun vs H Q E h => ?_) (fun cdv Ar outer s H vs Q E hr h => ?_)
  · obtain ⟨a, ns, rfl, _⟩ := h; rfl
  · obtain ⟨a, ns, rfl, hs, hn, kq⟩ := h
    refine ⟨_, (pss_cons (ps_set (i := 1) sc_law.nd rfl (Or.inl rfl) (pe_call G_pen (hr.mono (by decide)) (by rfl) T.g_pen T.F_pen.kp T.b_pen .nil pass0 (pa_cons (pv 0) pa_nil)))
      (pss_cons (ps_forT PassesOwn.never rfl (by rfl) T.z_range (pg_name (i := 2) sc_law.nd rfl (Or.inl rfl))
        (psst_cons (PST.of (ps_set (i := 3) sc_law.nd rfl (Or.inl rfl) (pe_call G_pick (hr.mono (by decide)) (by rfl) T.g_pick T.F_pick.kp T.b_pick .nil pass0 (pa_cons (pv 1) (pa_cons (pe_lst (pa_cons pe_int (pa_cons pe_int (pa_cons pe_int (pa_cons pe_int (pa_cons pe_int (pa_cons pe_int (pa_cons pe_int pa_nil)))))))) pa_nil)))))
        (psst_cons (PST.of (ps_set (i := 4) sc_law.nd rfl (Or.inl rfl) (pe_call G_lof (hr.mono (by decide)) (by rfl) T.g_lof T.F_lof.kp T.b_lof .nil pass0 (pa_cons (pv 1) (pa_cons (pv 3) pa_nil)))))
        (psst_cons (PST.of (ps_par (i := 5) (j := 6) (by rfl) sc_law.nd rfl rfl (by decide) rfl rfl (pa_cons (pe_callTy call_list_of (by rfl) T.z_list (by decide +kernel) (pa_cons (pv 4) pa_nil)) (pa_cons (pe_call G_words (hr.mono (by decide)) (by rfl) T.g_words T.F_words.kp T.b_words .nil pass0 (pa_cons (pv 4) pa_nil)) pa_nil)) (by rfl)))
        (psst_cons (pst_lcT (i := 7) (own := [("_law_word", 13)]) (by rfl) sc_law.nd rfl rfl (sw_true rfl rfl rfl (by decide +kernel)) (pi_or (pi_list (pv 6)) (pi_tup (pv 6))) (blkOk_by (own := [("_law_word", 13)]) (N := ["_law_script", "_law_pen", "_law_turn", "_law_many", "_law_lengths", "_law_handed", "_law_due", "_law_turned", "_law_code", "_law_other", "_law_words_here", "_law_at", "_law_more", "_law_word"]) (sc := defScope s_law) (by decide +kernel)) (fun _ _ _ _ _ => (pg_name (i := 13) sc_law.nd rfl (Or.inl rfl))) (fun _ _ _ _ _ => (CwR.pet_replT (CwR.pet_replT (CwR.pet_replC (pv 13))))))
        (psst_cons (PST.of (ps_par3 (i := 8) (j := 9) (l := 10) (by rfl) sc_law.nd rfl rfl rfl (by decide) (by decide) (by decide) rfl rfl rfl (pa_cons (pe_make T.Co.M G_init (hr.mono (by decide)) (by rfl) T.g_Code (Classical.choose_spec T.b_init1).2 (Classical.choose_spec T.b_init1).1 pass0 (pa_cons (pv 5) pa_nil)) (pa_cons (pe_make T.Co.M G_init (hr.mono (by decide)) (by rfl) T.g_Code T.b_init2 .nil pass0 (pa_cons (pe_callTy call_tupE (by rfl) T.z_tuple (by decide +kernel) (pa_cons (pv 4) pa_nil)) (pa_cons (pv 7) pa_nil))) (pa_cons (pe_callTy call_list_of (by rfl) T.z_list (by decide +kernel) (pa_cons (pv 7) pa_nil)) pa_nil))) (by rfl)))
        (psst_cons (PST.of (ps_expr (pe_bm0 PySem.F.plainAttrs_list PySem.F.slot_list_clear PySem.F.type_list_clear mt_clear (pv 5))))
        (psst_cons (PST.of (ps_if (PW.pt (pw_or (pt_cmpR (op_neD hr.units) (pe_fld (pv 8) rfl) (pe_callTy call_tupE (by rfl) T.z_tuple (by decide +kernel) (pa_cons (pv 4) pa_nil)) (nomark _)) (pw_or (pt_cmpR (op_neD hr.units) (pe_fld (pv 8) rfl) (pv 6) (nomark _)) (pw_or (pt_cmpR op_ne (pe_fld (pv 8) rfl) (pv 3) (nomark _)) (pw_or1 (pt_cmpR op_ne (pe_fld (pv 8) rfl) (pe_callB (cr_maxE rfl) (by rfl) T.z_max (by decide +kernel) (pa_cons (pv 4) pa_nil)) (nomark _))))))) (pss_one (ps_ret pe_bl))
         pss_nil))
        (psst_cons (PST.of (ps_if (PW.pt (pw_or (pt_cmpR (op_neD hr.units) (pe_fld (pv 9) rfl) (pe_fld (pv 8) rfl) (nomark _)) (pw_or (pt_cmpR (op_neD hr.units) (pe_fld (pv 9) rfl) (pe_callTy call_tupE (by rfl) T.z_tuple (by decide +kernel) (pa_cons (pv 10) pa_nil)) (nomark _)) (pw_or1 (pt_cmpR op_ne (pe_fld (pv 9) rfl) (pv 3) (nomark _)))))) (pss_one (ps_ret pe_bl))
         pss_nil))
        (psst_cons (PST.of (ps_expr (pe_bm0 PySem.F.plainAttrs_list PySem.F.slot_list_clear PySem.F.type_list_clear mt_clear (pv 7))))
        (psst_cons (PST.of (ps_if (PW.pt (pw_or (pt_cmpR (op_neD hr.units) (pe_fld (pv 9) rfl) (pe_callTy call_tupE (by rfl) T.z_tuple (by decide +kernel) (pa_cons (pv 10) pa_nil)) (nomark _)) (pw_or (pt_cmpR op_ne (pe_fld (pv 9) rfl) (pe_fld (pv 8) rfl) (nomark _)) (pw_or1 (pt_not (pt_val (pe_callB call_isi (by rfl) T.z_isinstance (by decide +kernel) (pa_cons (pe_fld (pv 9) rfl) (pa_cons (pe_bltn (v := .ty "tuple") (by rfl) T.z_tuple (by decide +kernel) rfl) pa_nil))))))))) (pss_one (ps_ret pe_bl))
         pss_nil))
        (psst_cons (PST.of (ps_if (PW.pt (pw_or (pt_cmpR (op_neI T.Co.ne T.Co.eq T.Co.fn T.Co.sub (show FnR _ _ _ _ _ _ 1 _ (spE2 K A.c) from G_eq.raw T.b_eq .nil) (hr.mono (by decide)) pass0) (pv 8) (pe_make T.Co.M G_init (hr.mono (by decide)) (by rfl) T.g_Code T.b_init2 .nil pass0 (pa_cons (pv 4) (pa_cons (pv 6) pa_nil))) (nomark _)) (pw_or (pt_cmpR (op_neI T.Co.ne T.Co.eq T.Co.fn T.Co.sub (show FnR _ _ _ _ _ _ 1 _ (spE2 K A.c) from G_eq.raw T.b_eq .nil) (hr.mono (by decide)) pass0) (pe_make T.Co.M G_init (hr.mono (by decide)) (by rfl) T.g_Code T.b_init2 .nil pass0 (pa_cons (pe_callTy call_tupE (by rfl) T.z_tuple (by decide +kernel) (pa_cons (pv 4) pa_nil)) (pa_cons (pe_fld (pv 8) rfl) pa_nil))) (pv 8) (nomark _)) (pw_or1 (pt_cmpR (op_eqI T.Co.eq T.Co.fn (show FnR _ _ _ _ _ _ 1 _ (spE2 K A.c) from G_eq.raw T.b_eq .nil) (hr.mono (by decide)) pass0) (pv 8) (pv 9) (nomark _)))))) (pss_one (ps_ret pe_bl))
         pss_nil))
        (psst_cons (PST.of (ps_if (PW.pt (pw_or (pt_cmpR (op_neI T.Co.ne T.Co.eq T.Co.fn T.Co.sub (show FnR _ _ _ _ _ _ 1 _ (spE2 K A.c) from G_eq.raw T.b_eq .nil) (hr.mono (by decide)) pass0) (pv 9) (pe_make T.Co.M G_init (hr.mono (by decide)) (by rfl) T.g_Code T.b_init2 .nil pass0 (pa_cons (pv 4) (pa_cons (pv 10) pa_nil))) (nomark _)) (pw_or1 (pt_cmpR (op_eqI T.Co.eq T.Co.fn (show FnR _ _ _ _ _ _ 1 _ (spE2 K A.c) from G_eq.raw T.b_eq .nil) (hr.mono (by decide)) pass0) (pv 8) (pe_fld (pv 8) rfl) (nomark _))))) (pss_one (ps_ret pe_bl))
         pss_nil))
        (psst_cons (PST.of (ps_set (i := 11) sc_law.nd rfl (Or.inl rfl) (pe_call G_draw (hr.mono (by decide)) (by rfl) T.g_draw T.F_draw.kp T.b_draw .nil pass0 (pa_cons (pv 1) (pa_cons (pv 3) pa_nil)))))
        (psst_cons (PST.of (ps_set (i := 12) sc_law.nd rfl (Or.inl rfl) (pe_op op_cat (pe_slice sl_list (pv 4) (po_some (pv 11)) po_none) (pe_slice sl_list (pv 4) po_none (po_some (pv 11))))))
        (CwR.psst_one (PST.of (ps_if (pt_cmpR op_ne (pe_cmpR (op_eqI T.Co.eq T.Co.fn (show FnR _ _ _ _ _ _ 1 _ (spE2 K A.c) from G_eq.raw T.b_eq .nil) (hr.mono (by decide)) pass0) (pe_make T.Co.M G_init (hr.mono (by decide)) (by rfl) T.g_Code (Classical.choose_spec T.b_init1).2 (Classical.choose_spec T.b_init1).1 pass0 (pa_cons (pv 12) pa_nil)) (pv 8) (nomark _)) (pe_cmpR (op_eqD hr.units) (pv 12) (pv 4) (nomark _)) (nomark _)) (pss_one (ps_ret pe_bl))
         pss_nil))))))))))))))))) (by decide) (by decide))
      (pss_one (ps_ret pe_bl)))), ?_⟩
    refine ⟨_, rfl, a, ns, rfl, hs, hn, fun d lc H0 pen0 s0 nd => ?_⟩
    refine for_range (lo := 0) (n := (6 : Int).toNat) (fun j σ G => (∃ z2 z3 z4 z5 z6 z7 z8 z9 z10 z11 z12 z13, σ = [some (.ref a), some (.ref d), z2, z3, z4, z5, z6, z7, z8, z9, z10, z11, z12, z13]) ∧ ∃ k, Pen G d lc k ∧ k ≤ 100 * j) ⟨⟨_, _, _, _, _, _, _, _, _, _, _, _, rfl⟩, 0, pen0, Nat.zero_le _⟩ ?_ ?_
    · rintro j σ G0 hj ⟨⟨z2, z3, z4, z5, z6, z7, z8, z9, z10, z11, z12, z13, rfl⟩, k, pen, hk⟩
      have hj : j < 6 := hj
      refine ⟨_, rfl, (by show 7 ≤ sizeLine; decide), fun p np => ?_⟩
      have sp := same_new (o := .lst [V.int 2, .int 3, .int 4, .int 5, .int 7, .int 12, .int 26]) np
      have penp := pen.same sp
      have hp : upd G0 p (.lst [V.int 2, .int 3, .int 4, .int 5, .int 7, .int 12, .int 26]) p = some (.lst [V.int 2, .int 3, .int 4, .int 5, .int 7, .int 12, .int 26]) := upd_same
      generalize upd G0 p (.lst [V.int 2, .int 3, .int 4, .int 5, .int 7, .int 12, .int 26]) = G1 at penp hp ⊢
      refine ⟨d, lc, p, _, k, rfl, penp, hp, (by show 0 < 7; decide), (by show 7 < 1000; decide), by omega, fun v G2 k2 hv hk2 pen2 bt2 => ?_⟩
      obtain ⟨n, rfl, n2, n26⟩ : ∃ n : Nat, v = .int (n : Int) ∧ 2 ≤ n ∧ n ≤ 26 := by
        simp only [List.mem_cons, List.not_mem_nil, or_false] at hv
        rcases hv with rfl | rfl | rfl | rfl | rfl | rfl | rfl
        · exact ⟨2, rfl, by decide, by decide⟩
        · exact ⟨3, rfl, by decide, by decide⟩
        · exact ⟨4, rfl, by decide, by decide⟩
        · exact ⟨5, rfl, by decide, by decide⟩
        · exact ⟨7, rfl, by decide, by decide⟩
        · exact ⟨12, rfl, by decide, by decide⟩
        · exact ⟨26, rfl, by decide, by decide⟩
      clear hv
      refine ⟨_, rfl, _, rfl, d, lc, n, k2, rfl, pen2, n2, n26, by omega, fun a1 G3 k3 L hk3 pen3 bt3 na1 hL G hlen => ?_⟩
      refine ⟨_, rfl, a1, _, rfl, .inl (SqL.of hL), fun h nh => ?_⟩
      have s4 := same_new (o := .lst (Ls L)) nh
      have hL4 := s4 _ _ hL
      have pen4 := pen3.same s4
      have hh4 : upd G3 h (.lst (Ls L)) h = some (.lst (Ls L)) := upd_same
      have ha1h : a1 ≠ h := ne_of_none hL nh
      have hlch : lc ≠ h := let ⟨_, e⟩ := pen3.cells; ne_of_none e nh
      generalize upd G3 h (.lst (Ls L)) = G4 at hL4 pen4 hh4 ⊢
      refine ⟨_, rfl, a1, L, rfl, SqL.of hL4, G, fun td G5 s5 htd => ?_⟩
      refine ⟨_, _, rfl, ?_⟩
      have hL5 := s5 _ _ hL4
      have pen5 := pen4.same s5
      have hh5 := s5 _ _ hh4
      refine seq_read (a := td) (xs := txs (cw L)) rfl (lc_E (.inr htd) (fun D i G6 => Same G5 G6 ∧ G6 D = some (.lst (txs ((tw L).take i)))) (fun _ _ _ h => h.1) (fun D hD => ⟨same_new hD, by simp [upd_same, txs]⟩) ?_ ?_)
      · rintro D i x G6 hD hx ⟨s6, h6⟩
        obtain ⟨w0, hw0, rfl⟩ := txs_of hx
        obtain ⟨l, hl, rfl, hin⟩ := cw_of hw0
        have rl := G.at hl
        have b01 := bits_01 l (KR.num (pr L) (l, i))
        have wl : (word (pr L) (l, i)).length ≤ 25 := by rw [word_len]; exact rl.2
        have htw : (tw L)[i]? = some (turned (word (pr L) (l, i))) := by unfold tw; rw [List.getElem?_map, hw0]; rfl
        have t3 := tt3 (l := word (pr L) (l, i)) b01
        refine ⟨rfl, yes_of ⟨_, rfl, _, rfl, rb wl rfl, _, rfl, ?_, _, rfl, ?_, _, h6, ?_, fun b o e => ?_, ?_⟩⟩
        · rw [r1]; exact rb (by rw [List.length_map]; exact wl) rfl
        · rw [r1, r2]; exact rb (by rw [List.length_map, List.length_map]; exact wl) rfl
        · have := G.hi
          have := (List.getElem?_eq_some_iff.mp hl).1
          rw [txs_len, List.length_take, sizeLine_eq]
          omega
        · rw [upd_ne (ne_of_none e hD)]; exact s6 _ _ e
        · rw [upd_same, t3, List.take_succ, htw]
          unfold txs
          rw [List.map_append]
          rfl
      · rintro tl G6 ntl ⟨s6, htl⟩
        have etl : (tw L).take (txs (cw L)).length = tw L := by
          refine List.take_of_length_le ?_
          rw [txs_len]
          unfold tw
          rw [List.length_map]
          exact Nat.le_refl _
        rw [etl] at htl
        have hL6 := s6 _ _ hL5
        have pen6 := pen5.same s6
        have hh6 := s6 _ _ hh5
        have htd6 := SqT.ext htd s6
        refine ⟨_, rfl, make_read (.inl (SqL.of hh6)) G (.inl ⟨rfl, rfl⟩) (fun c G7 nc s7 hc => ?_)⟩
        have hL7 := s7 _ _ hL6
        have htl7 := s7 _ _ htl
        refine ⟨_, rfl, a1, _, rfl, .inl (SqL.of hL7), fun pt G8 s8 hpt => ?_⟩
        have htl8 := s8 _ _ htl7
        refine ⟨_, rfl, make_read (.inr hpt) G (.inr ⟨tl, rfl, .inl (SqL.of htl8), tw_ok G⟩) (fun o G9 no s9 ho => ?_)⟩
        have htl9 := s9 _ _ htl8
        refine ⟨_, rfl, tl, _, rfl, .inl (SqL.of htl9), fun wh nwh => ⟨_, _, _, rfl, ?_⟩⟩
        have sA := same_new (o := .lst (txs (tw L))) nwh
        have hwA : upd G9 wh (.lst (txs (tw L))) wh = some (.lst (txs (tw L))) := upd_same
        have htlA := sA _ _ htl9
        have hwtl : wh ≠ tl := (ne_of_none htl9 nwh).symm
        have s69 : Same G6 G9 := (s7.trans s8).trans s9
        have hhA := sA _ _ (s69 _ _ hh6)
        have hwh : wh ≠ h := (ne_of_none (s69 _ _ hh6) nwh).symm
        have f0 : Fx K A.c (upd G9 wh (.lst (txs (tw L)))) d lc c o td a1 wh k3 L :=
          ⟨((hc.same s8).same s9).same sA, ho.same sA, SqT.ext (SqT.ext htd6 s69) sA, sA _ _ (s69 _ _ hL6), hwA, (pen6.same s69).same sA⟩
        have htlh : tl ≠ h := (ne_of_none hh5 ntl).symm
        have hlctl : lc ≠ tl := let ⟨_, e⟩ := pen5.cells; ne_of_none e ntl
        have ha1tl : a1 ≠ tl := ne_of_none hL5 ntl
        generalize upd G9 wh (.lst (txs (tw L))) = GA at hwA htlA hhA f0 ⊢
        refine ⟨_, rfl, .inl ⟨rfl, _, SqL.of hhA⟩, h, _, rfl, rfl, hhA, ?_⟩
        have dh : ∀ q zs, GA q = some (.lst zs) → d ≠ q := fun q zs e => let ⟨_, e2⟩ := f0.pen.some; ne_of e2 e (fun z => nomatch z)
        have f1 : Fx K A.c (upd GA h (.lst [])) d lc c o td a1 wh k3 L :=
          ⟨f0.hc.updl hhA, f0.ho.updl hhA, SqT.updl hhA f0.hd, by rw [upd_ne ha1h]; exact f0.hl, by rw [upd_ne hwh]; exact f0.hw, f0.pen.upd (dh _ _ hhA) hlch⟩
        have htlB : upd GA h (.lst []) tl = some (.lst (txs (tw L))) := by rw [upd_ne htlh]; exact htlA
        generalize upd GA h (.lst []) = GB at f1 htlB ⊢
        have nLL : (!decide (L = L)) = false := by simp
        have nWW : ∀ ws : List (List Nat), (!decide (ws = ws)) = false := fun ws => by simp
        have nV : ∀ v : V, (!decide (v = v)) = false := fun v => by simp
        obtain ⟨dc, pw, pl, m, xc, wc, lc', mc, oc⟩ := id f1.hc
        refine ⟨_, rfl, c, _, dc, _, _, rfl, xc, Co.cl, Co.n_lengths, lk_lengths _ _ _ _, _, rfl, a1, _, rfl, .inl (SqL.of f1.hl), fun q GC sC hq => ?_⟩
        refine ⟨.tuple (dLs L), .tuple (dLs L), .tup (SqT.ext lc' sC) (dp_Ls L), .tup hq (dp_Ls L), shaped_Ls L, shaped_Ls L, _, rfl, ?_⟩
        rw [eqv_Ls, nLL]
        refine iteF ?_
        have f2 := f1.same sC
        have htlC := sC _ _ htlB
        clear f1 xc wc lc' mc oc
        obtain ⟨dc, pw, pl, m, xc, wc, lc', mc, oc⟩ := id f2.hc
        refine ⟨_, rfl, c, _, dc, _, _, rfl, xc, Co.cl, Co.n_words, lk_words _ _ _ _, _, rfl, .tuple (dws (cw L)), .tuple (dws (cw L)), .tup wc (dp_ws _), .tup f2.hd (dp_ws _), shaped_ws _ oc, shaped_ws _ oc, _, rfl, ?_⟩
        rw [eqv_ws, nWW]
        refine iteF ?_
        refine ⟨_, rfl, c, _, dc, _, _, rfl, xc, Co.cl, Co.n_size, lk_size _ _ _ _, _, rfl, rfl, _, rfl, ?_⟩
        rw [hlen, nV]
        refine iteF ?_
        refine ⟨_, rfl, c, _, dc, _, _, rfl, xc, Co.cl, Co.n_longest, lk_longest _ _ _ _, _, rfl, a1, _, rfl, .inl (SqL.of f2.hl), by rw [List.length_map]; omega, fun m2 g1 g2 => ?_⟩
        obtain rfl := IsMax.uniq mc ⟨g1, g2⟩
        refine ⟨rfl, _, rfl, ?_⟩
        rw [nV]
        refine iteF ?_
        -- the second
        obtain ⟨do_, pw2, pl2, m2, xo, wo, lo', mo, oo⟩ := id f2.ho
        refine ⟨_, rfl, o, _, do_, _, _, rfl, xo, Co.cl, Co.n_lengths, lk_lengths _ _ _ _, _, rfl, c, _, dc, _, _, rfl, xc, Co.cl, Co.n_lengths, lk_lengths _ _ _ _, ?_⟩
        refine ⟨.tuple (dLs L), .tuple (dLs L), .tup lo' (dp_Ls L), .tup lc' (dp_Ls L), shaped_Ls L, shaped_Ls L, _, rfl, ?_⟩
        rw [eqv_Ls, nLL]
        refine iteF ?_
        refine ⟨_, rfl, o, _, do_, _, _, rfl, xo, Co.cl, Co.n_words, lk_words _ _ _ _, _, rfl, wh, _, rfl, .inl (SqL.of f2.hw), fun q2 GD sD hq2 => ?_⟩
        refine ⟨.tuple (dws (tw L)), .tuple (dws (tw L)), .tup (SqT.ext wo sD) (dp_ws _), .tup hq2 (dp_ws _), shaped_ws _ oo, shaped_ws _ oo, _, rfl, ?_⟩
        rw [eqv_ws, nWW]
        refine iteF ?_
        refine ⟨_, rfl, o, _, do_, _, _, rfl, sD _ _ xo, Co.cl, Co.n_size, lk_size _ _ _ _, _, rfl, rfl, _, rfl, ?_⟩
        rw [hlen, nV]
        refine iteF ?_
        -- the list of turned words is cleared
        have f3 := f2.same sD
        have htlD := sD _ _ htlC
        refine ⟨_, rfl, .inl ⟨rfl, _, SqL.of htlD⟩, tl, _, rfl, rfl, htlD, ?_⟩
        have dtl : d ≠ tl := let ⟨_, e2⟩ := f3.pen.some; ne_of e2 htlD (fun z => nomatch z)
        have f4 : Fx K A.c (upd GD tl (.lst [])) d lc c o td a1 wh k3 L :=
          ⟨f3.hc.updl htlD, f3.ho.updl htlD, SqT.updl htlD f3.hd, by rw [upd_ne ha1tl]; exact f3.hl, by rw [upd_ne hwtl]; exact f3.hw, f3.pen.upd dtl hlctl⟩
        generalize upd GD tl (.lst []) = GE at f4 ⊢
        clear f2 f3 xc wc lc' mc oc xo wo lo' mo oo
        obtain ⟨do_, pw2, pl2, m2, xo, wo, lo', mo, oo⟩ := id f4.ho
        refine ⟨_, rfl, o, _, do_, _, _, rfl, xo, Co.cl, Co.n_words, lk_words _ _ _ _, _, rfl, wh, _, rfl, .inl (SqL.of f4.hw), fun q3 GF sF hq3 => ?_⟩
        refine ⟨.tuple (dws (tw L)), .tuple (dws (tw L)), .tup (SqT.ext wo sF) (dp_ws _), .tup hq3 (dp_ws _), shaped_ws _ oo, shaped_ws _ oo, _, rfl, ?_⟩
        rw [eqv_ws, nWW]
        refine iteF ?_
        have f5 := f4.same sF
        clear f4 xo wo lo' mo oo
        obtain ⟨do_, pw2, pl2, m2, xo, wo, lo', mo, oo⟩ := id f5.ho
        obtain ⟨dc, pw, pl, m, xc, wc, lc', mc, oc⟩ := id f5.hc
        obtain rfl := IsMax.uniq mo mc
        refine ⟨_, rfl, o, _, do_, _, _, rfl, xo, Co.cl, Co.n_longest, lk_longest _ _ _ _, _, rfl, c, _, dc, _, _, rfl, xc, Co.cl, Co.n_longest, lk_longest _ _ _ _, rfl, _, rfl, ?_⟩
        rw [nV]
        refine iteF ?_
        refine ⟨_, rfl, o, _, do_, _, _, rfl, xo, Co.cl, Co.n_words, lk_words _ _ _ _, .ref pw2, .ty "tuple", .type "tuple", .type "tuple", true, rfl, .ty "tuple", tyT wo, Co.tt, true, rfl, iteF ?_⟩
        refine ⟨_, rfl, _, rfl, _, rfl, make_read (.inl (SqL.of f5.hl)) G (.inr ⟨td, rfl, .inr f5.hd, cw_ok G⟩) (fun x1 GG n1 s1 h1 => ?_)⟩
        refine ne_read Co (f5.hc.same s1) h1 ⟨_, rfl, ?_⟩
        rw [nWW]
        refine iteF ?_
        have f6 := f5.same s1
        clear f5 xc wc lc' mc oc xo wo lo' mo oo
        refine ⟨_, rfl, a1, _, rfl, .inl (SqL.of f6.hl), fun pt2 GH sH hpt2 => ?_⟩
        have f7 := f6.same sH
        clear f6
        obtain ⟨dc, pw, pl, m, xc, wc, lc', mc, oc⟩ := id f7.hc
        refine ⟨_, rfl, c, _, dc, _, _, rfl, xc, Co.cl, Co.n_words, lk_words _ _ _ _, make_read (.inr hpt2) G (.inr ⟨pw, rfl, .inr wc, cw_ok G⟩) (fun x2 GI n2 sI h2 => ?_)⟩
        have f8 := f7.same sI
        clear f7 xc wc lc' mc oc
        refine ⟨_, rfl, ne_read Co h2 f8.hc ⟨_, rfl, ?_⟩⟩
        rw [nWW]
        refine iteF ?_
        refine ⟨_, rfl, _, rfl, eq_read Co f8.hc f8.ho ⟨_, rfl, ?_⟩⟩
        rw [show decide (cw L = tw L) = false from decide_eq_false (cw_ne_tw G)]
        refine iteF ?_
        refine ⟨_, rfl, _, rfl, _, rfl, make_read (.inl (SqL.of f8.hl)) G (.inr ⟨wh, rfl, .inl (SqL.of f8.hw), tw_ok G⟩) (fun x3 GJ n3 sJ h3 => ?_)⟩
        refine ne_read Co (f8.ho.same sJ) h3 ⟨_, rfl, ?_⟩
        rw [nWW]
        refine iteF ?_
        have f9 := f8.same sJ
        clear f8
        obtain ⟨dc, pw, pl, m, xc, wc, lc', mc, oc⟩ := id f9.hc
        refine ⟨_, rfl, _, rfl, c, _, dc, _, _, rfl, xc, Co.cl, Co.n_lengths, lk_lengths _ _ _ _, eq_tup Co f9.hc lc' ⟨_, rfl, iteF ?_⟩⟩
        -- turned about
        refine ⟨_, rfl, _, rfl, d, lc, _, k3, rfl, f9.pen, by omega, by omega, by omega, fun v GK k4 v0 v1 hk4 pen4 bt4 => ?_⟩
        obtain ⟨x9, hd9⟩ := f9.pen.some
        have hcK := f9.hc.butd hd9 bt4
        have hlK : GK a1 = some (.lst (Ls L)) := bt4 _ _ (ne_of f9.hl hd9 (fun z => nomatch z)) f9.hl
        obtain ⟨i, rfl⟩ : ∃ i : Nat, v = (i : Int) := ⟨v.toNat, (Int.toNat_of_nonneg v0).symm⟩
        have il : i < L.length := by omega
        clear f9 xc wc lc' mc oc
        refine ⟨_, rfl, _, rfl, _, rfl, a1, _, rfl, SqL.of hlK, fun q5 n5 => ?_⟩
        rw [cut_drop L il]
        have e5 : upd GK q5 (.lst (Ls (L.drop i))) q5 = some (.lst (Ls (L.drop i))) := upd_same
        have s5' := same_new (o := .lst (Ls (L.drop i))) n5
        generalize upd GK q5 (.lst (Ls (L.drop i))) = GM at e5 s5' ⊢
        refine ⟨_, rfl, _, rfl, _, rfl, a1, _, rfl, SqL.of (s5' _ _ hlK), fun q6 n6 => ?_⟩
        rw [cut_take L il]
        have e6 : upd GM q6 (.lst (Ls (L.take i))) q6 = some (.lst (Ls (L.take i))) := upd_same
        have s6' := same_new (o := .lst (Ls (L.take i))) n6
        have e56 := s6' _ _ e5
        have sKN := s5'.trans s6'
        generalize upd GM q6 (.lst (Ls (L.take i))) = GN at e6 e56 sKN ⊢
        have hd5 : (Ls (L.drop i)).length + (Ls (L.take i)).length ≤ sizeLine := by
          rw [Ls_len, Ls_len, List.length_drop, List.length_take, sizeLine_eq]; have := G.hi; omega
        refine ⟨q5, q6, _, _, rfl, rfl, e56, e6, hd5, fun mo nmo => ?_⟩
        have eL : Ls (L.drop i) ++ Ls (L.take i) = Ls (L.drop i ++ L.take i) := by
          unfold Ls
          rw [List.map_append, List.map_append]
        rw [eL]
        have hmo : upd GN mo (.lst (Ls (L.drop i ++ L.take i))) mo = some (.lst (Ls (L.drop i ++ L.take i))) := upd_same
        have sKO := sKN.trans (same_new (o := .lst (Ls (L.drop i ++ L.take i))) nmo)
        generalize upd GN mo (.lst (Ls (L.drop i ++ L.take i))) = GO at hmo sKO ⊢
        have hcO := hcK.same sKO
        have hlO := sKO _ _ hlK
        have penO := pen4.same sKO
        refine ⟨_, rfl, make_read (.inl (SqL.of hmo)) (good_turn G i) (.inl ⟨rfl, rfl⟩) (fun x4 GP n4 sP h4 => ?_)⟩
        refine ⟨_, rfl, eq_read Co h4 (hcO.same sP) ?_⟩
        refine ⟨_, rfl, _, rfl, .list (dLs (L.drop i ++ L.take i)), .list (dLs L), .lst (SqL.of (sP _ _ hmo)) (dp_Ls _), .lst (SqL.of (sP _ _ hlO)) (dp_Ls _), shaped_LsL _, shaped_LsL _, ?_⟩
        rw [eqv_LsL]
        have eb : decide (cw (L.drop i ++ L.take i) = cw L) = decide (L.drop i ++ L.take i = L) := by
          by_cases e : L.drop i ++ L.take i = L
          · rw [e]; simp
          · rw [decide_eq_false e, decide_eq_false fun z => e (words_eq z)]
        rw [eb]
        refine ⟨rfl, _, rfl, ?_⟩
        rw [nV]
        exact iteF ⟨⟨_, _, _, _, _, _, _, _, _, _, _, _, rfl⟩, k4, penO.same sP, by omega⟩
    · rintro σ G0 ⟨⟨z2, z3, z4, z5, z6, z7, z8, z9, z10, z11, z12, z13, rfl⟩, k, pen, hk⟩
      exact kq G0
end
end Z

set_option Elab.async false
set_option linter.all false
set_option maxRecDepth 100000
set_option maxHeartbeats 8000000
/-! what the top has written, gathered -/
namespace Z
open PySem L2 PyProof.Rows
/-- of the class Code: all that is asked of it -/
def codeB (K : PySem.W.Frag) (C fI fE : Addr) : Bool :=
  PySem.W.makesIn K C && PySem.W.findIn K (.ref C) "__init__" == some (some (.ref fI)) && PySem.W.isFn K (.ref fI) && PySem.W.keepIn K (.ref C) &&
  PySem.W.plainGet K C Str.empty && PySem.W.hasDictIn K C && PySem.W.plainOver K C && PySem.W.findIn K (.ref C) "__setattr__" == some (some (.builtin "object.__setattr__")) &&
  PySem.W.findIn K (.ref C) "lengths" == some none && PySem.W.findIn K (.ref C) "words" == some none && PySem.W.findIn K (.ref C) "size" == some none && PySem.W.findIn K (.ref C) "longest" == some none &&
  PySem.W.findIn K (.ref C) "__eq__" == some (some (.ref fE)) && PySem.W.findIn K (.ref C) "__ne__" == some (some (.builtin "object.__ne__")) && PySem.W.isFn K (.ref fE) &&
  PySem.W.subIn K (.ref C) (.type "object") == some true && PySem.W.notFirst K C (.ref C) && PySem.W.notFirst K C (.type "tuple") &&
  PySem.W.kitOne K (.ref C) (.ref C) == some true && PySem.W.kitOne K (.type "tuple") (.ref C) == some false &&
  PySem.W.findIn K (.ref C) "__class__" == some (some (.builtin "object.__class__")) && PySem.W.specialIn K (.builtin "object.__class__") "__get__" == some (some (.builtin "getset_descriptor.__get__")) &&
  PySem.W.takesIn K (.builtin "object.__class__") == some true && PySem.W.mroIn K C (.type "object") == some true &&
  PySem.W.kitOne K (.type "int") (.type "int") == some true && PySem.W.kitOne K (.type "int") (.type "bool") == some false && PySem.W.kitOne K (.type "str") (.type "str") == some true && PySem.W.kitOne K (.type "tuple") (.type "tuple") == some true
theorem cc_mk {K : PySem.W.Frag} {C fI fE : Addr} (e : codeB K C fI fE = true) : Cc K C fI fE := by
  unfold codeB at e
  simp only [Bool.and_eq_true, beq_iff_eq] at e
  obtain ⟨⟨⟨⟨⟨⟨⟨⟨⟨⟨⟨⟨⟨⟨⟨⟨⟨⟨⟨⟨⟨⟨⟨⟨⟨⟨⟨e1, e2⟩, e3⟩, e4⟩, e5⟩, e6⟩, e7⟩, e8⟩, e9⟩, e10⟩, e11⟩, e12⟩, e13⟩, e14⟩, e15⟩, e16⟩, e17⟩, e18⟩, e19⟩, e20⟩, e21⟩, e22⟩, e23⟩, e24⟩, e25⟩, e26⟩, e27⟩, e28⟩ := e
  exact { M := ⟨e1, e2, e3, e4⟩, cl := ⟨e5, e6, e7, e8⟩, n_lengths := e9, n_words := e10, n_size := e11, n_longest := e12, eq := e13, ne := e14, fn := e15, sub := e16, nfc := e17, nft := e18, kc := e19, kt := e20, ha := e21, hn := e22, ht := e23, hm := e24, ii := e25, ib := e26, ss := e27, tt := e28 }
section
variable {P : Program} {w : World} {K : PySem.W.Frag} {mg : Str → Option Value} {h : Heap} {fa : Addr}
theorem all_mk (X : K.In h) (G : h.Ns mainGlobals mg) (hfa : mg "law" = some (.ref fa))
    {f_isint : Addr} {oc_isint kV_isint doc_isint pm_isint cd_isint ct_isint : Value} {od_isint an_isint : Option Addr} {sl_isint : Array (Option Value)}
    {f_many : Addr} {oc_many kV_many doc_many pm_many cd_many ct_many : Value} {od_many an_many : Option Addr} {sl_many : Array (Option Value)}
    {f_lens : Addr} {oc_lens kV_lens doc_lens pm_lens cd_lens ct_lens : Value} {od_lens an_lens : Option Addr} {sl_lens : Array (Option Value)}
    {f_isword : Addr} {oc_isword kV_isword doc_isword pm_isword cd_isword ct_isword : Value} {od_isword an_isword : Option Addr} {sl_isword : Array (Option Value)}
    {f_cwords : Addr} {oc_cwords kV_cwords doc_cwords pm_cwords cd_cwords ct_cwords : Value} {od_cwords an_cwords : Option Addr} {sl_cwords : Array (Option Value)}
    {f_canon : Addr} {oc_canon kV_canon doc_canon pm_canon cd_canon ct_canon : Value} {od_canon an_canon : Option Addr} {sl_canon : Array (Option Value)}
    {f_pen : Addr} {oc_pen kV_pen doc_pen pm_pen cd_pen ct_pen : Value} {od_pen an_pen : Option Addr} {sl_pen : Array (Option Value)}
    {f_draw : Addr} {oc_draw kV_draw doc_draw pm_draw cd_draw ct_draw : Value} {od_draw an_draw : Option Addr} {sl_draw : Array (Option Value)}
    {f_pick : Addr} {oc_pick kV_pick doc_pick pm_pick cd_pick ct_pick : Value} {od_pick an_pick : Option Addr} {sl_pick : Array (Option Value)}
    {f_lof : Addr} {oc_lof kV_lof doc_lof pm_lof cd_lof ct_lof : Value} {od_lof an_lof : Option Addr} {sl_lof : Array (Option Value)}
    {f_two : Addr} {oc_two kV_two doc_two pm_two cd_two ct_two : Value} {od_two an_two : Option Addr} {sl_two : Array (Option Value)}
    {f_words : Addr} {oc_words kV_words doc_words pm_words cd_words ct_words : Value} {od_words an_words : Option Addr} {sl_words : Array (Option Value)}
    {f_law : Addr} {oc_law kV_law doc_law pm_law cd_law ct_law : Value} {od_law an_law : Option Addr} {sl_law : Array (Option Value)}
    {C : Addr}
    {f_init f_eq : Addr}
    {T0 : Addr} {ot : Value} {odt : Option Addr} {nT : Nat} {slt : Array (Option Value)}
    {oc_init kV_init doc_init pm_init cd_init ct_init : Value} {od_init an_init : Option Addr} {sl_init : Array (Option Value)}
    {oc_eq kV_eq doc_eq pm_eq cd_eq ct_eq : Value} {od_eq an_eq : Option Addr} {sl_eq : Array (Option Value)}
    {t_FEWEST_SIGNS : Tok}
    {t_MOST_SIGNS : Tok}
    {t_LONGEST_WORD : Tok}
    (a_isint : PySem.W.nsIn K mainGlobals "is_int" = some (some (.ref f_isint)))
    (l_isint : K.lookup f_isint = some ⟨oc_isint, od_isint, .func (PySem.W.fnOf "is_int" "is_int" (defArgs s_isint) (defBody s_isint) (defScope s_isint) .none kV_isint doc_isint pm_isint an_isint cd_isint ct_isint), sl_isint⟩)
    (c_isint : PySem.W.codeIn K cd_isint "is_int" = true)
    (k_isint : PySem.W.keepIn K (.ref f_isint) = true)
    (a_many : PySem.W.nsIn K mainGlobals "check_many" = some (some (.ref f_many)))
    (l_many : K.lookup f_many = some ⟨oc_many, od_many, .func (PySem.W.fnOf "check_many" "check_many" (defArgs s_many) (defBody s_many) (defScope s_many) .none kV_many doc_many pm_many an_many cd_many ct_many), sl_many⟩)
    (c_many : PySem.W.codeIn K cd_many "check_many" = true)
    (k_many : PySem.W.keepIn K (.ref f_many) = true)
    (a_lens : PySem.W.nsIn K mainGlobals "check_lengths" = some (some (.ref f_lens)))
    (l_lens : K.lookup f_lens = some ⟨oc_lens, od_lens, .func (PySem.W.fnOf "check_lengths" "check_lengths" (defArgs s_lens) (defBody s_lens) (defScope s_lens) .none kV_lens doc_lens pm_lens an_lens cd_lens ct_lens), sl_lens⟩)
    (c_lens : PySem.W.codeIn K cd_lens "check_lengths" = true)
    (k_lens : PySem.W.keepIn K (.ref f_lens) = true)
    (a_isword : PySem.W.nsIn K mainGlobals "is_word" = some (some (.ref f_isword)))
    (l_isword : K.lookup f_isword = some ⟨oc_isword, od_isword, .func (PySem.W.fnOf "is_word" "is_word" (defArgs s_isword) (defBody s_isword) (defScope s_isword) .none kV_isword doc_isword pm_isword an_isword cd_isword ct_isword), sl_isword⟩)
    (c_isword : PySem.W.codeIn K cd_isword "is_word" = true)
    (k_isword : PySem.W.keepIn K (.ref f_isword) = true)
    (a_cwords : PySem.W.nsIn K mainGlobals "check_words" = some (some (.ref f_cwords)))
    (l_cwords : K.lookup f_cwords = some ⟨oc_cwords, od_cwords, .func (PySem.W.fnOf "check_words" "check_words" (defArgs s_cwords) (defBody s_cwords) (defScope s_cwords) .none kV_cwords doc_cwords pm_cwords an_cwords cd_cwords ct_cwords), sl_cwords⟩)
    (c_cwords : PySem.W.codeIn K cd_cwords "check_words" = true)
    (k_cwords : PySem.W.keepIn K (.ref f_cwords) = true)
    (a_canon : PySem.W.nsIn K mainGlobals "canonical_words" = some (some (.ref f_canon)))
    (l_canon : K.lookup f_canon = some ⟨oc_canon, od_canon, .func (PySem.W.fnOf "canonical_words" "canonical_words" (defArgs s_canon) (defBody s_canon) (defScope s_canon) .none kV_canon doc_canon pm_canon an_canon cd_canon ct_canon), sl_canon⟩)
    (c_canon : PySem.W.codeIn K cd_canon "canonical_words" = true)
    (k_canon : PySem.W.keepIn K (.ref f_canon) = true)
    (a_pen : PySem.W.nsIn K mainGlobals "_law_pen_of" = some (some (.ref f_pen)))
    (l_pen : K.lookup f_pen = some ⟨oc_pen, od_pen, .func (PySem.W.fnOf "_law_pen_of" "_law_pen_of" (defArgs s_pen) (defBody s_pen) (defScope s_pen) .none kV_pen doc_pen pm_pen an_pen cd_pen ct_pen), sl_pen⟩)
    (c_pen : PySem.W.codeIn K cd_pen "_law_pen_of" = true)
    (k_pen : PySem.W.keepIn K (.ref f_pen) = true)
    (a_draw : PySem.W.nsIn K mainGlobals "_law_draw" = some (some (.ref f_draw)))
    (l_draw : K.lookup f_draw = some ⟨oc_draw, od_draw, .func (PySem.W.fnOf "_law_draw" "_law_draw" (defArgs s_draw) (defBody s_draw) (defScope s_draw) .none kV_draw doc_draw pm_draw an_draw cd_draw ct_draw), sl_draw⟩)
    (c_draw : PySem.W.codeIn K cd_draw "_law_draw" = true)
    (k_draw : PySem.W.keepIn K (.ref f_draw) = true)
    (a_pick : PySem.W.nsIn K mainGlobals "_law_pick" = some (some (.ref f_pick)))
    (l_pick : K.lookup f_pick = some ⟨oc_pick, od_pick, .func (PySem.W.fnOf "_law_pick" "_law_pick" (defArgs s_pick) (defBody s_pick) (defScope s_pick) .none kV_pick doc_pick pm_pick an_pick cd_pick ct_pick), sl_pick⟩)
    (c_pick : PySem.W.codeIn K cd_pick "_law_pick" = true)
    (k_pick : PySem.W.keepIn K (.ref f_pick) = true)
    (a_lof : PySem.W.nsIn K mainGlobals "_law_lengths_of" = some (some (.ref f_lof)))
    (l_lof : K.lookup f_lof = some ⟨oc_lof, od_lof, .func (PySem.W.fnOf "_law_lengths_of" "_law_lengths_of" (defArgs s_lof) (defBody s_lof) (defScope s_lof) .none kV_lof doc_lof pm_lof an_lof cd_lof ct_lof), sl_lof⟩)
    (c_lof : PySem.W.codeIn K cd_lof "_law_lengths_of" = true)
    (k_lof : PySem.W.keepIn K (.ref f_lof) = true)
    (a_two : PySem.W.nsIn K mainGlobals "_law_two_to" = some (some (.ref f_two)))
    (l_two : K.lookup f_two = some ⟨oc_two, od_two, .func (PySem.W.fnOf "_law_two_to" "_law_two_to" (defArgs s_two) (defBody s_two) (defScope s_two) .none kV_two doc_two pm_two an_two cd_two ct_two), sl_two⟩)
    (c_two : PySem.W.codeIn K cd_two "_law_two_to" = true)
    (k_two : PySem.W.keepIn K (.ref f_two) = true)
    (a_words : PySem.W.nsIn K mainGlobals "_law_words" = some (some (.ref f_words)))
    (l_words : K.lookup f_words = some ⟨oc_words, od_words, .func (PySem.W.fnOf "_law_words" "_law_words" (defArgs s_words) (defBody s_words) (defScope s_words) .none kV_words doc_words pm_words an_words cd_words ct_words), sl_words⟩)
    (c_words : PySem.W.codeIn K cd_words "_law_words" = true)
    (k_words : PySem.W.keepIn K (.ref f_words) = true)
    (a_law : PySem.W.nsIn K mainGlobals "law" = some (some (.ref f_law)))
    (l_law : K.lookup f_law = some ⟨oc_law, od_law, .func (PySem.W.fnOf "law" "law" (defArgs s_law) (defBody s_law) (defScope s_law) .none kV_law doc_law pm_law an_law cd_law ct_law), sl_law⟩)
    (c_law : PySem.W.codeIn K cd_law "law" = true)
    (k_law : PySem.W.keepIn K (.ref f_law) = true)
    (aC : PySem.W.nsIn K mainGlobals "Code" = some (some (.ref C)))
    (iI : PySem.W.findIn K (.ref C) "__init__" = some (some (.ref f_init)))
    (iE : PySem.W.findIn K (.ref C) "__eq__" = some (some (.ref f_eq)))
    (l_init : K.lookup f_init = some ⟨oc_init, od_init, .func (PySem.W.fnOf "__init__" "Code.__init__" (defArgs s_init) (defBody s_init) (defScope s_init) (.ref T0) kV_init doc_init pm_init an_init cd_init ct_init), sl_init⟩)
    (c_init : PySem.W.codeIn K cd_init "Code.__init__" = true)
    (k_init : PySem.W.keepIn K (.ref f_init) = true)
    (lT : K.lookup T0 = some ⟨ot, odt, .seq #[.none] nT, slt⟩)
    (l_eq : K.lookup f_eq = some ⟨oc_eq, od_eq, .func (PySem.W.fnOf "__eq__" "Code.__eq__" (defArgs s_eq) (defBody s_eq) (defScope s_eq) .none kV_eq doc_eq pm_eq an_eq cd_eq ct_eq), sl_eq⟩)
    (c_eq : PySem.W.codeIn K cd_eq "Code.__eq__" = true)
    (k_eq : PySem.W.keepIn K (.ref f_eq) = true)
    (cB : codeB K C f_init f_eq = true)
    (q_FEWEST_SIGNS : PySem.W.nsIn K mainGlobals "FEWEST_SIGNS" = some (some (.int 2 t_FEWEST_SIGNS)))
    (q_MOST_SIGNS : PySem.W.nsIn K mainGlobals "MOST_SIGNS" = some (some (.int 26 t_MOST_SIGNS)))
    (q_LONGEST_WORD : PySem.W.nsIn K mainGlobals "LONGEST_WORD" = some (some (.int 25 t_LONGEST_WORD)))
    (z_isinstance : PySem.W.nsIn K mainGlobals "isinstance" = some none)
    (z_int : PySem.W.nsIn K mainGlobals "int" = some none)
    (z_bool : PySem.W.nsIn K mainGlobals "bool" = some none)
    (z_str : PySem.W.nsIn K mainGlobals "str" = some none)
    (z_len : PySem.W.nsIn K mainGlobals "len" = some none)
    (z_enumerate : PySem.W.nsIn K mainGlobals "enumerate" = some none)
    (z_sum : PySem.W.nsIn K mainGlobals "sum" = some none)
    (z_range : PySem.W.nsIn K mainGlobals "range" = some none)
    (z_sorted : PySem.W.nsIn K mainGlobals "sorted" = some none)
    (z_tuple : PySem.W.nsIn K mainGlobals "tuple" = some none)
    (z_list : PySem.W.nsIn K mainGlobals "list" = some none)
    (z_max : PySem.W.nsIn K mainGlobals "max" = some none)
    (z_abs : PySem.W.nsIn K mainGlobals "abs" = some none) :
    ∃ fd : FuncData, (∀ (s : Shared) (v : Value), BindsTo s fd ⟨[v], []⟩ [("_law_script", v)]) ∧ ∀ base : Heap, K.In base → base.Ns mainGlobals mg → FnOk P w K mg base CX0 6 fa fd ["_law_script"] (spLaw K) := by
  have e := hfa.symm.trans (PySem.W.mg_of X G a_law)
  cases e
  have FD : FunD K "__init__" "Code.__init__" (defArgs s_init) (defBody s_init) (defScope s_init) [.non] [] f_init (PySem.W.fnOf "__init__" "Code.__init__" (defArgs s_init) (defBody s_init) (defScope s_init) (.ref T0) kV_init doc_init pm_init an_init cd_init ct_init) :=
    ⟨⟨_, _, _, _, _, _, _, _, _, _, rfl, l_init, c_init, .inr ⟨by simp, T0, _, [.none], nT, rfl, lT, rfl, .cons rfl .nil⟩, .inl rfl⟩, k_init⟩
  have B1 : ∃ ds, Vals [V.non] ds ∧ Binds K (PySem.W.fnOf "__init__" "Code.__init__" (defArgs s_init) (defBody s_init) (defScope s_init) (.ref T0) kV_init doc_init pm_init an_init cd_init ct_init) ["self", "lengths", "words"] ds :=
    FD.binds1 2 0 (by simp) rfl fun T kV doc pm an cdv ct us its h1 h2 => match us, its, h1, h2 with | [_, _], [_], _, _ => ⟨_, rfl, rfl⟩
  have B2 : Binds K (PySem.W.fnOf "__init__" "Code.__init__" (defArgs s_init) (defBody s_init) (defScope s_init) (.ref T0) kV_init doc_init pm_init an_init cd_init ct_init) ["self", "lengths", "words"] [] := by
    obtain ⟨ds, r, b⟩ := FD.binds1 (ps := ["self", "lengths", "words"]) 3 1 (by simp) rfl fun T kV doc pm an cdv ct us its h1 h2 => match us, its, h1, h2 with | [_, _, _], [_], _, _ => ⟨_, rfl, rfl⟩
    cases r
    exact b
  have T : Txt K mg { a_isint := f_isint, d_isint := PySem.W.fnOf "is_int" "is_int" (defArgs s_isint) (defBody s_isint) (defScope s_isint) .none kV_isint doc_isint pm_isint an_isint cd_isint ct_isint, a_many := f_many, d_many := PySem.W.fnOf "check_many" "check_many" (defArgs s_many) (defBody s_many) (defScope s_many) .none kV_many doc_many pm_many an_many cd_many ct_many, a_lens := f_lens, d_lens := PySem.W.fnOf "check_lengths" "check_lengths" (defArgs s_lens) (defBody s_lens) (defScope s_lens) .none kV_lens doc_lens pm_lens an_lens cd_lens ct_lens, a_isword := f_isword, d_isword := PySem.W.fnOf "is_word" "is_word" (defArgs s_isword) (defBody s_isword) (defScope s_isword) .none kV_isword doc_isword pm_isword an_isword cd_isword ct_isword, a_cwords := f_cwords, d_cwords := PySem.W.fnOf "check_words" "check_words" (defArgs s_cwords) (defBody s_cwords) (defScope s_cwords) .none kV_cwords doc_cwords pm_cwords an_cwords cd_cwords ct_cwords, a_canon := f_canon, d_canon := PySem.W.fnOf "canonical_words" "canonical_words" (defArgs s_canon) (defBody s_canon) (defScope s_canon) .none kV_canon doc_canon pm_canon an_canon cd_canon ct_canon, a_pen := f_pen, d_pen := PySem.W.fnOf "_law_pen_of" "_law_pen_of" (defArgs s_pen) (defBody s_pen) (defScope s_pen) .none kV_pen doc_pen pm_pen an_pen cd_pen ct_pen, a_draw := f_draw, d_draw := PySem.W.fnOf "_law_draw" "_law_draw" (defArgs s_draw) (defBody s_draw) (defScope s_draw) .none kV_draw doc_draw pm_draw an_draw cd_draw ct_draw, a_pick := f_pick, d_pick := PySem.W.fnOf "_law_pick" "_law_pick" (defArgs s_pick) (defBody s_pick) (defScope s_pick) .none kV_pick doc_pick pm_pick an_pick cd_pick ct_pick, a_lof := f_lof, d_lof := PySem.W.fnOf "_law_lengths_of" "_law_lengths_of" (defArgs s_lof) (defBody s_lof) (defScope s_lof) .none kV_lof doc_lof pm_lof an_lof cd_lof ct_lof, a_two := f_two, d_two := PySem.W.fnOf "_law_two_to" "_law_two_to" (defArgs s_two) (defBody s_two) (defScope s_two) .none kV_two doc_two pm_two an_two cd_two ct_two, a_words := f_words, d_words := PySem.W.fnOf "_law_words" "_law_words" (defArgs s_words) (defBody s_words) (defScope s_words) .none kV_words doc_words pm_words an_words cd_words ct_words, a_law := fa, d_law := PySem.W.fnOf "law" "law" (defArgs s_law) (defBody s_law) (defScope s_law) .none kV_law doc_law pm_law an_law cd_law ct_law, c := C, a_init := f_init, d_init := PySem.W.fnOf "__init__" "Code.__init__" (defArgs s_init) (defBody s_init) (defScope s_init) (.ref T0) kV_init doc_init pm_init an_init cd_init ct_init, a_eq := f_eq, d_eq := PySem.W.fnOf "__eq__" "Code.__eq__" (defArgs s_eq) (defBody s_eq) (defScope s_eq) .none kV_eq doc_eq pm_eq an_eq cd_eq ct_eq } := { F_isint := (fun_mk l_isint c_isint k_isint), g_isint := (PySem.W.mg_of X G a_isint), b_isint := ((fun_mk (st := s_isint) l_isint c_isint k_isint).binds fun _ _ _ _ _ _ us hl => match us, hl with | [_], _ => rfl), F_many := (fun_mk l_many c_many k_many), g_many := (PySem.W.mg_of X G a_many), b_many := ((fun_mk (st := s_many) l_many c_many k_many).binds fun _ _ _ _ _ _ us hl => match us, hl with | [_], _ => rfl), F_lens := (fun_mk l_lens c_lens k_lens), g_lens := (PySem.W.mg_of X G a_lens), b_lens := ((fun_mk (st := s_lens) l_lens c_lens k_lens).binds fun _ _ _ _ _ _ us hl => match us, hl with | [_], _ => rfl), F_isword := (fun_mk l_isword c_isword k_isword), g_isword := (PySem.W.mg_of X G a_isword), b_isword := ((fun_mk (st := s_isword) l_isword c_isword k_isword).binds fun _ _ _ _ _ _ us hl => match us, hl with | [_, _], _ => rfl), F_cwords := (fun_mk l_cwords c_cwords k_cwords), g_cwords := (PySem.W.mg_of X G a_cwords), b_cwords := ((fun_mk (st := s_cwords) l_cwords c_cwords k_cwords).binds fun _ _ _ _ _ _ us hl => match us, hl with | [_, _], _ => rfl), F_canon := (fun_mk l_canon c_canon k_canon), g_canon := (PySem.W.mg_of X G a_canon), b_canon := ((fun_mk (st := s_canon) l_canon c_canon k_canon).binds fun _ _ _ _ _ _ us hl => match us, hl with | [_], _ => rfl), F_pen := (fun_mk l_pen c_pen k_pen), g_pen := (PySem.W.mg_of X G a_pen), b_pen := ((fun_mk (st := s_pen) l_pen c_pen k_pen).binds fun _ _ _ _ _ _ us hl => match us, hl with | [_], _ => rfl), F_draw := (fun_mk l_draw c_draw k_draw), g_draw := (PySem.W.mg_of X G a_draw), b_draw := ((fun_mk (st := s_draw) l_draw c_draw k_draw).binds fun _ _ _ _ _ _ us hl => match us, hl with | [_, _], _ => rfl), F_pick := (fun_mk l_pick c_pick k_pick), g_pick := (PySem.W.mg_of X G a_pick), b_pick := ((fun_mk (st := s_pick) l_pick c_pick k_pick).binds fun _ _ _ _ _ _ us hl => match us, hl with | [_, _], _ => rfl), F_lof := (fun_mk l_lof c_lof k_lof), g_lof := (PySem.W.mg_of X G a_lof), b_lof := ((fun_mk (st := s_lof) l_lof c_lof k_lof).binds fun _ _ _ _ _ _ us hl => match us, hl with | [_, _], _ => rfl), F_two := (fun_mk l_two c_two k_two), g_two := (PySem.W.mg_of X G a_two), b_two := ((fun_mk (st := s_two) l_two c_two k_two).binds fun _ _ _ _ _ _ us hl => match us, hl with | [_], _ => rfl), F_words := (fun_mk l_words c_words k_words), g_words := (PySem.W.mg_of X G a_words), b_words := ((fun_mk (st := s_words) l_words c_words k_words).binds fun _ _ _ _ _ _ us hl => match us, hl with | [_], _ => rfl), F_law := (fun_mk l_law c_law k_law), g_law := (PySem.W.mg_of X G a_law), b_law := ((fun_mk (st := s_law) l_law c_law k_law).binds fun _ _ _ _ _ _ us hl => match us, hl with | [_], _ => rfl), Co := (cc_mk cB), g_Code := (PySem.W.mg_of X G aC), F_init := (FD), b_init1 := (B1), b_init2 := (B2), F_eq := (fun_mk l_eq c_eq k_eq), b_eq := ((fun_mk (st := s_eq) l_eq c_eq k_eq).binds fun _ _ _ _ _ _ us hl => match us, hl with | [_, _], _ => rfl), k_FEWEST_SIGNS := (⟨_, PySem.W.mg_of X G q_FEWEST_SIGNS⟩), k_MOST_SIGNS := (⟨_, PySem.W.mg_of X G q_MOST_SIGNS⟩), k_LONGEST_WORD := (⟨_, PySem.W.mg_of X G q_LONGEST_WORD⟩), z_isinstance := (PySem.W.mg_none_of X G z_isinstance), z_int := (PySem.W.mg_none_of X G z_int), z_bool := (PySem.W.mg_none_of X G z_bool), z_str := (PySem.W.mg_none_of X G z_str), z_len := (PySem.W.mg_none_of X G z_len), z_enumerate := (PySem.W.mg_none_of X G z_enumerate), z_sum := (PySem.W.mg_none_of X G z_sum), z_range := (PySem.W.mg_none_of X G z_range), z_sorted := (PySem.W.mg_none_of X G z_sorted), z_tuple := (PySem.W.mg_none_of X G z_tuple), z_list := (PySem.W.mg_none_of X G z_list), z_max := (PySem.W.mg_none_of X G z_max), z_abs := (PySem.W.mg_none_of X G z_abs) }
  exact ⟨_, fun s v => .of_eq rfl, fun base _ _ => ok_law T⟩
end
end Z

set_option Elab.async false
open PySem PySem.W PyProof.Rows
set_option maxRecDepth 100000
set_option maxHeartbeats 0
open_top k37head for PySem.Challenge.rw_leastjoined_k37_words_of_codes

open PySem PySem.W PyProof.Rows
set_option Elab.async false
set_option maxRecDepth 100000
set_option maxHeartbeats 0
theorem PySem.Challenge.cw_leastjoined_k37_words_of_codes_holds : PySem.Challenge.rw_leastjoined_k37_words_of_codes.Holds := by
  refine k37head ?_
  k_fill
  refine L2.walk_ofK (l := PySem.Challenge.rw_leastjoined_k37_words_of_codes) (n := 63) (k := 6) (x := "_law_script") (CX := L2.CX0) (sp := Z.spLaw) rfl (by decide) rfl ⟨rfl, by decide, by decide⟩ (fun w h Y => PySem.W.kIn_of Y) ?F (fun K H a ns hl _ hS => ⟨a, ns, rfl, hS, hl, fun _ => rfl⟩) ?hCX
  case hCX => intro H s e s' h; exact h
  case F =>
    intro w mg fa h KX G hmg
    refine' Z.all_mk KX G hmg ?a_isint ?l_isint ?c_isint ?k_isint ?a_many ?l_many ?c_many ?k_many ?a_lens ?l_lens ?c_lens ?k_lens ?a_isword ?l_isword ?c_isword ?k_isword ?a_cwords ?l_cwords ?c_cwords ?k_cwords ?a_canon ?l_canon ?c_canon ?k_canon ?a_pen ?l_pen ?c_pen ?k_pen ?a_draw ?l_draw ?c_draw ?k_draw ?a_pick ?l_pick ?c_pick ?k_pick ?a_lof ?l_lof ?c_lof ?k_lof ?a_two ?l_two ?c_two ?k_two ?a_words ?l_words ?c_words ?k_words ?a_law ?l_law ?c_law ?k_law ?aC ?iI ?iE ?l_init ?c_init ?k_init ?lT ?l_eq ?c_eq ?k_eq ?cB ?q_FEWEST_SIGNS ?q_MOST_SIGNS ?q_LONGEST_WORD ?z_isinstance ?z_int ?z_bool ?z_str ?z_len ?z_enumerate ?z_sum ?z_range ?z_sorted ?z_tuple ?z_list ?z_max ?z_abs
    (case a_isint => k_is)
    (case l_isint => k_is)
    (case c_isint => k_is)
    (case k_isint => k_is)
    (case a_many => k_is)
    (case l_many => k_is)
    (case c_many => k_is)
    (case k_many => k_is)
    (case a_lens => k_is)
    (case l_lens => k_is)
    (case c_lens => k_is)
    (case k_lens => k_is)
    (case a_isword => k_is)
    (case l_isword => k_is)
    (case c_isword => k_is)
    (case k_isword => k_is)
    (case a_cwords => k_is)
    (case l_cwords => k_is)
    (case c_cwords => k_is)
    (case k_cwords => k_is)
    (case a_canon => k_is)
    (case l_canon => k_is)
    (case c_canon => k_is)
    (case k_canon => k_is)
    (case a_pen => k_is)
    (case l_pen => k_is)
    (case c_pen => k_is)
    (case k_pen => k_is)
    (case a_draw => k_is)
    (case l_draw => k_is)
    (case c_draw => k_is)
    (case k_draw => k_is)
    (case a_pick => k_is)
    (case l_pick => k_is)
    (case c_pick => k_is)
    (case k_pick => k_is)
    (case a_lof => k_is)
    (case l_lof => k_is)
    (case c_lof => k_is)
    (case k_lof => k_is)
    (case a_two => k_is)
    (case l_two => k_is)
    (case c_two => k_is)
    (case k_two => k_is)
    (case a_words => k_is)
    (case l_words => k_is)
    (case c_words => k_is)
    (case k_words => k_is)
    (case a_law => k_is)
    (case l_law => k_is)
    (case c_law => k_is)
    (case k_law => k_is)
    (case aC => k_is)
    (case iI => k_is)
    (case iE => k_is)
    (case l_init => k_is)
    (case c_init => k_is)
    (case k_init => k_is)
    (case lT => k_is)
    (case l_eq => k_is)
    (case c_eq => k_is)
    (case k_eq => k_is)
    (case cB => kernel_rfl)
    (case q_FEWEST_SIGNS => k_is)
    (case q_MOST_SIGNS => k_is)
    (case q_LONGEST_WORD => k_is)
    (case z_isinstance => k_is)
    (case z_int => k_is)
    (case z_bool => k_is)
    (case z_str => k_is)
    (case z_len => k_is)
    (case z_enumerate => k_is)
    (case z_sum => k_is)
    (case z_range => k_is)
    (case z_sorted => k_is)
    (case z_tuple => k_is)
    (case z_list => k_is)
    (case z_max => k_is)
    (case z_abs => k_is)

