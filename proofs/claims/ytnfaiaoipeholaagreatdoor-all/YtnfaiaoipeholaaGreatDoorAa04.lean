/- TreeMath GoodMath Places ReadMath -/
import Derived.Test.YtnfaiaoipeholaaGreatDoorAa01
namespace Go.Proofs.YtnfaiaoipeholaaGreatDoor

/-- a factor begins here -/
def isF (s : ByteArray) (p : Nat) : Bool := cL (bt s p) || cN (bt s p) || cO (bt s p)
/-- how a byte turns the depth -/
def dpt (c : Int) (d : Int) : Int := if cO c then d + 1 else if cX c then d - 1 else d
/-- the place behind a factor -/
def bhF (s : ByteArray) : Nat → Nat → Int → Nat
  | 0, _, _ => s.size
  | n + 1, i, d => if dpt (bt s i) d = 0 then i + 1 else bhF s n (i + 1) (dpt (bt s i) d)
def bhD (s : ByteArray) (i : Nat) (d : Int) : Nat := bhF s (s.size - i) i d
def bh (s : ByteArray) (f : Nat) : Nat := bhD s f 0
theorem bhD_step {s : ByteArray} {i : Nat} {d : Int} (h : i < s.size) : bhD s i d = if dpt (bt s i) d = 0 then i + 1 else bhD s (i + 1) (dpt (bt s i) d) := by
  unfold bhD
  obtain ⟨n, hn⟩ : ∃ n, s.size - i = n + 1 := ⟨s.size - i - 1, by omega⟩
  rw [hn, show s.size - (i + 1) = n by omega]; rfl
theorem bhD_end {s : ByteArray} {i : Nat} {d : Int} (h : ¬ i < s.size) : bhD s i d = s.size := by
  unfold bhD; rw [show s.size - i = 0 by omega]; rfl
theorem bhF_bd (s : ByteArray) : ∀ n i d, n = s.size - i → i < s.size → i < bhF s n i d ∧ bhF s n i d ≤ s.size
  | 0, i, d, hn, hi => by omega
  | n + 1, i, d, hn, hi => by
    unfold bhF; split
    · omega
    · by_cases h : i + 1 < s.size
      · have := bhF_bd s n (i + 1) (dpt (bt s i) d) (by omega) h; omega
      · have : n = 0 := by omega
        subst this; simp only [bhF]; omega
theorem isF_lt {s : ByteArray} {p : Nat} (h : isF s p = true) : p < s.size := by
  by_cases hp : p < s.size
  · exact hp
  · rw [isF, bt_out s p (by omega)] at h; exact absurd h (by decide)
theorem bh_bd {s : ByteArray} {f : Nat} (h : isF s f = true) : f < bh s f ∧ bh s f ≤ s.size := bhF_bd s _ f 0 rfl (isF_lt h)
theorem bh_plain {s : ByteArray} {f : Nat} (h : f < s.size) (hc : (cL (bt s f) || cN (bt s f)) = true) : bh s f = f + 1 := by
  have hv : (97 ≤ bt s f ∧ bt s f ≤ 122) ∨ (65 ≤ bt s f ∧ bt s f ≤ 90) := by simpa [cL, cN] using hc
  have h1 : cO (bt s f) = false := by
    cases e : cO (bt s f)
    · rfl
    · have := cO_vals e; omega
  have h2 : cX (bt s f) = false := by
    cases e : cX (bt s f)
    · rfl
    · have := cX_vals e; omega
  unfold bh; rw [bhD_step h, if_pos]; simp [dpt, h1, h2]

/-- the places of an alternative's factors, and where it ends -/
def feF (s : ByteArray) : Nat → Nat → List Nat × Nat
  | 0, p => ([], p)
  | n + 1, p => if isF s p then (p :: (feF s n (bh s p)).1, (feF s n (bh s p)).2) else ([], p)
theorem feF_eq (s : ByteArray) : ∀ n m p, s.size - p ≤ n → s.size - p ≤ m → feF s n p = feF s m p
  | 0, 0, p, _, _ => rfl
  | 0, m + 1, p, h, _ => by
    have : isF s p = false := by cases e : isF s p with | false => rfl | true => have := isF_lt e; omega
    simp [feF, this]
  | n + 1, 0, p, _, h => by
    have : isF s p = false := by cases e : isF s p with | false => rfl | true => have := isF_lt e; omega
    simp [feF, this]
  | n + 1, m + 1, p, h1, h2 => by
    unfold feF; split
    · rename_i e
      have := bh_bd e
      have := isF_lt e
      rw [feF_eq s n m (bh s p) (by omega) (by omega)]
    · rfl
def fe (s : ByteArray) (p : Nat) : List Nat × Nat := feF s (s.size - p) p
theorem fe_yes {s : ByteArray} {p : Nat} (h : isF s p = true) : fe s p = (p :: (fe s (bh s p)).1, (fe s (bh s p)).2) := by
  have h1 := bh_bd h
  have h2 := isF_lt h
  unfold fe
  obtain ⟨n, hn⟩ : ∃ n, s.size - p = n + 1 := ⟨s.size - p - 1, by omega⟩
  rw [hn, feF_eq s (s.size - bh s p) n (bh s p) (by omega) (by omega)]
  simp [feF, h]
theorem fe_no {s : ByteArray} {p : Nat} (h : isF s p = false) : fe s p = ([], p) := by
  unfold fe
  cases s.size - p with
  | zero => rfl
  | succ n => simp [feF, h]
theorem feF_bd (s : ByteArray) : ∀ n p, p ≤ (feF s n p).2 ∧ ((feF s n p).2 ≤ s.size ∨ (feF s n p).2 = p)
  | 0, p => ⟨Nat.le_refl _, .inr rfl⟩
  | n + 1, p => by
    unfold feF; split
    · rename_i e
      have := bh_bd e
      have := feF_bd s n (bh s p)
      simp only; omega
    · exact ⟨Nat.le_refl _, .inr rfl⟩
theorem fe_bd (s : ByteArray) (p : Nat) : p ≤ (fe s p).2 ∧ ((fe s p).2 ≤ s.size ∨ (fe s p).2 = p) := feF_bd s _ p
theorem feF_len (s : ByteArray) : ∀ n p, (feF s n p).1.length ≤ n
  | 0, p => by simp [feF]
  | n + 1, p => by
    unfold feF; split
    · have := feF_len s n (bh s p); simp; omega
    · simp
theorem fe_len (s : ByteArray) (p : Nat) : (fe s p).1.length ≤ s.size := by
  have := feF_len s (s.size - p) p; unfold fe; omega
theorem feF_mem (s : ByteArray) : ∀ n p f, f ∈ (feF s n p).1 → isF s f = true ∧ p ≤ f
  | 0, p, f, h => by simp [feF] at h
  | n + 1, p, f, h => by
    unfold feF at h; split at h
    · rename_i e
      rcases List.mem_cons.1 h with h | h
      · subst h; exact ⟨e, Nat.le_refl _⟩
      · have := feF_mem s n (bh s p) f h; have := bh_bd e; exact ⟨by simp_all, by omega⟩
    · simp at h
theorem fe_mem {s : ByteArray} {p f : Nat} (h : f ∈ (fe s p).1) : isF s f = true ∧ p ≤ f := feF_mem s _ p f h

/-- where the alternative with a number begins -/
def ap (s : ByteArray) : Nat → Nat → Option Nat
  | 0, x => some x
  | k + 1, x => if bt s (fe s x).2 = 124 then ap s k ((fe s x).2 + 1) else none
theorem ap_last (s : ByteArray) : ∀ k x, ap s (k + 1) x = match ap s k x with
    | none => none
    | some a => if bt s (fe s a).2 = 124 then some ((fe s a).2 + 1) else none
  | 0, x => by simp [ap]
  | k + 1, x => by
    show (if bt s (fe s x).2 = 124 then ap s (k + 1) ((fe s x).2 + 1) else none) = _
    by_cases h : bt s (fe s x).2 = 124
    · rw [if_pos h, ap_last s k]; simp [ap, h]
    · rw [if_neg h]; simp [ap, h]
theorem ap_none {s : ByteArray} {x k : Nat} (h : ap s k x = none) : ∀ m, k ≤ m → ap s m x = none := by
  intro m hm
  induction m with
  | zero => have : k = 0 := by omega
            subst this; exact h
  | succ m ih =>
    by_cases e : k = m + 1
    · subst e; exact h
    · rw [ap_last, ih (by omega)]
theorem ap_bd {s : ByteArray} : ∀ {k x a : Nat}, ap s k x = some a → x ≤ a ∧ (a ≤ s.size ∨ a = x)
  | 0, x, a, h => by simp [ap] at h; omega
  | k + 1, x, a, h => by
    unfold ap at h; split at h
    · rename_i e
      have h1 := ap_bd h
      have h2 := fe_bd s x
      have h3 : (fe s x).2 < s.size := by
        by_cases h3 : (fe s x).2 < s.size
        · exact h3
        · rw [bt_out s _ (by omega)] at e; omega
      omega
    · simp at h

/-- where an expression ends -/
def eeF (s : ByteArray) : Nat → Nat → Nat
  | 0, x => (fe s x).2
  | n + 1, x => if bt s (fe s x).2 = 124 then eeF s n ((fe s x).2 + 1) else (fe s x).2
theorem bt_lt {s : ByteArray} {p : Nat} (h : bt s p ≠ 0) : p < s.size := by
  by_cases h3 : p < s.size
  · exact h3
  · exact absurd (bt_out s p (by omega)) h
theorem eeF_eq (s : ByteArray) : ∀ n m p, s.size - p ≤ n → s.size - p ≤ m → eeF s n p = eeF s m p
  | 0, 0, p, _, _ => rfl
  | 0, m + 1, p, h, _ => by
    have h2 := fe_bd s p
    have h1 : ¬ bt s (fe s p).2 = 124 := fun e => by have := bt_lt (s := s) (p := (fe s p).2) (by omega); omega
    simp [eeF, h1]
  | n + 1, 0, p, _, h => by
    have h2 := fe_bd s p
    have h1 : ¬ bt s (fe s p).2 = 124 := fun e => by have := bt_lt (s := s) (p := (fe s p).2) (by omega); omega
    simp [eeF, h1]
  | n + 1, m + 1, p, h1, h2 => by
    unfold eeF; split
    · rename_i e
      have h3 := bt_lt (s := s) (p := (fe s p).2) (by omega)
      have h4 := fe_bd s p
      rw [eeF_eq s n m _ (by omega) (by omega)]
    · rfl
def ee (s : ByteArray) (x : Nat) : Nat := eeF s (s.size - x) x
theorem ee_bar {s : ByteArray} {x : Nat} (h : bt s (fe s x).2 = 124) : ee s x = ee s ((fe s x).2 + 1) := by
  have h3 := bt_lt (s := s) (p := (fe s x).2) (by omega)
  have h4 := fe_bd s x
  unfold ee
  obtain ⟨n, hn⟩ : ∃ n, s.size - x = n + 1 := ⟨s.size - x - 1, by omega⟩
  rw [hn, eeF_eq s (s.size - ((fe s x).2 + 1)) n _ (by omega) (by omega)]
  simp [eeF, h]
theorem ee_end {s : ByteArray} {x : Nat} (h : bt s (fe s x).2 ≠ 124) : ee s x = (fe s x).2 := by
  unfold ee
  cases s.size - x with
  | zero => rfl
  | succ n => simp [eeF, h]
theorem ee_fac {s : ByteArray} {x : Nat} (h : isF s x = true) : ee s x = ee s (bh s x) := by
  have e : (fe s x).2 = (fe s (bh s x)).2 := by rw [fe_yes h]
  by_cases hb : bt s (fe s x).2 = 124
  · rw [ee_bar hb, e, ← ee_bar (by rw [← e]; exact hb)]
  · rw [ee_end hb, e, ← ee_end (by rw [← e]; exact hb)]

/-- the text goes on well, within so many brackets, up to a rule's end -/
def good (s : ByteArray) : Nat → Nat → Nat → Prop
  | 0, _, _ => False
  | n + 1, i, d =>
    ((cL (bt s i) || cN (bt s i)) = true ∨ bt s i = 124) ∧ good s n (i + 1) d ∨ cO (bt s i) = true ∧ good s n (i + 1) (d + 1) ∨
      cX (bt s i) = true ∧ (∃ d', d = d' + 1 ∧ good s n (i + 1) d') ∨ bt s i = 59 ∧ d = 0

theorem plain_not {c : Int} (h : (cL c || cN c) = true ∨ c = 124) : cO c = false ∧ cX c = false := by
  have hv : ((97 ≤ c ∧ c ≤ 122) ∨ (65 ≤ c ∧ c ≤ 90)) ∨ c = 124 := by
    rcases h with h | h
    · exact .inl (by simpa [cL, cN] using h)
    · exact .inr h
  constructor
  · cases e : cO c
    · rfl
    · have := cO_vals e; omega
  · cases e : cX c
    · rfl
    · have := cX_vals e; omega

theorem close_not {c : Int} (h : cX c = true) : cL c = false ∧ cN c = false ∧ cO c = false ∧ c ≠ 124 := by
  rcases cX_vals h with rfl | rfl | rfl | rfl <;> decide

/-- from within a bracket: where its expression ends, it closes; and a count of brackets goes on behind it as if it were not there -/
theorem inner (s : ByteArray) : ∀ n i d, good s n i (d + 1) → i ≤ ee s i ∧ ee s i < s.size ∧ cX (bt s (ee s i)) = true ∧ (∃ m, m < n ∧ good s m (ee s i + 1) d) ∧
    bhD s i 1 = ee s i + 1 ∧ ∀ e : Int, 1 < e → bhD s i e = bhD s (ee s i + 1) (e - 1) := by
  intro n
  induction n using Nat.strongRecOn with
  | _ n ih =>
  intro i d h
  cases n with
  | zero => exact absurd h (by simp [good])
  | succ n =>
  rcases h with ⟨hc, hg⟩ | ⟨hc, hg⟩ | ⟨hc, d', hd, hg⟩ | ⟨_, hd⟩
  · obtain ⟨n1, n2⟩ := plain_not hc
    have hlt : i < s.size := bt_lt (by rcases hc with hc | hc
                                       · intro e; rw [e] at hc; simp [cL, cN] at hc
                                       · omega)
    have hee : ee s i = ee s (i + 1) := by
      rcases hc with hc | hc
      · have hf : isF s i = true := by simp [isF, hc]
        rw [ee_fac hf, bh_plain hlt hc]
      · have hf : isF s i = false := by simp [isF, n1]; rw [hc]; decide
        have : (fe s i).2 = i := by rw [fe_no hf]
        rw [ee_bar (by rw [this]; exact hc), this]
    obtain ⟨a1, a2, a3, ⟨m, a4, a5⟩, a6, a7⟩ := ih n (by omega) (i + 1) d hg
    have hd1 : ∀ e : Int, 0 < e → bhD s i e = bhD s (i + 1) e := fun e he => by rw [bhD_step hlt]; simp [dpt, n1, n2]; omega
    rw [hee]
    refine ⟨by omega, a2, a3, ⟨m, by omega, a5⟩, by rw [hd1 1 (by omega)]; exact a6, fun e he => by rw [hd1 e (by omega)]; exact a7 e he⟩
  · have hlt : i < s.size := bt_lt (by intro e; rw [e] at hc; revert hc; decide)
    have hf : isF s i = true := by simp [isF, hc]
    obtain ⟨a1, a2, a3, ⟨m, a4, a5⟩, a6, a7⟩ := ih n (by omega) (i + 1) (d + 1) hg
    have hbh : bh s i = ee s (i + 1) + 1 := by
      unfold bh; rw [bhD_step hlt]; simp only [dpt, hc]; simp; exact a6
    have hee : ee s i = ee s (ee s (i + 1) + 1) := by rw [ee_fac hf, hbh]
    obtain ⟨b1, b2, b3, ⟨m2, b4, b5⟩, b6, b7⟩ := ih m (by omega) (ee s (i + 1) + 1) d a5
    have hd1 : ∀ e : Int, 0 < e → bhD s i e = bhD s (ee s (i + 1) + 1) e := fun e he => by
      have hdp : dpt (bt s i) e = e + 1 := by simp [dpt, hc]
      rw [bhD_step hlt, hdp, if_neg (by omega), a7 (e + 1) (by omega), show e + 1 - 1 = e by omega]
    rw [hee]
    refine ⟨by omega, b2, b3, ⟨m2, by omega, b5⟩, by rw [hd1 1 (by omega)]; exact b6, fun e he => by rw [hd1 e (by omega)]; exact b7 e he⟩
  · have hd' : d' = d := by omega
    subst hd'
    obtain ⟨n1, n2, n3, n4⟩ := close_not hc
    have hlt : i < s.size := bt_lt (by intro e; rw [e] at hc; revert hc; decide)
    have hf : isF s i = false := by simp [isF, n1, n2, n3]
    have h2 : (fe s i).2 = i := by rw [fe_no hf]
    have hee : ee s i = i := by rw [ee_end (by rw [h2]; exact n4), h2]
    rw [hee]
    refine ⟨Nat.le_refl _, hlt, hc, ⟨n, by omega, hg⟩, ?_, fun e he => ?_⟩
    · rw [bhD_step hlt]; simp [dpt, n3, hc]
    · rw [bhD_step hlt]; simp only [dpt, n3, hc]; rw [if_neg (by omega)]; rfl
  · omega
theorem bh_open {s : ByteArray} {n i d : Nat} (h : good s n (i + 1) (d + 1)) (hc : cO (bt s i) = true) : bh s i = ee s (i + 1) + 1 := by
  have hlt : i < s.size := bt_lt (by intro e; rw [e] at hc; revert hc; decide)
  unfold bh; rw [bhD_step hlt]; simp only [dpt, hc]; simp; exact (inner s n (i + 1) d h).2.2.2.2.1
end Go.Proofs.YtnfaiaoipeholaaGreatDoor

namespace Go.Proofs.YtnfaiaoipeholaaGreatDoor

theorem good_of (s : ByteArray) : ∀ n k op al, n = s.size - k → Inv 2 op al → (fmF s n k 2 op al).1 = 0 → good s n k op.length
  | 0, k, op, al, hn, hi, h => by
    exfalso; unfold fmF at h; rw [if_pos (by simp)] at h; simp at h
  | n + 1, k, op, al, hn, hi, h => by
    have hlt : k < s.size := by omega
    by_cases h0 : (mst (bt s k) 2 op al).1 = 0
    case neg => exfalso; unfold fmF at h; rw [if_pos h0] at h; exact h0 h
    have hf : fmF s (n + 1) k 2 op al = fmF s n (k + 1) (mst (bt s k) 2 op al).2.1 (mst (bt s k) 2 op al).2.2.1 (mst (bt s k) 2 op al).2.2.2 := by
      conv => lhs; unfold fmF
      rw [if_neg (by simp [h0])]
    rw [hf] at h
    have hi' := hi.step h0
    unfold good
    cases h1 : cO (bt s k)
    · cases h2 : cX (bt s k)
      · by_cases h3 : bt s k = 124
        · rw [h3, mst_bar] at h h0 hi'
          by_cases hd : 10 ≤ al.getLastD 0
          · rw [if_pos hd] at h0; simp at h0
          · rw [if_neg hd] at h hi'
            exact .inl ⟨.inr h3, good_of s n (k + 1) _ _ (by omega) hi' h⟩
        · by_cases h4 : bt s k = 59
          · rw [h4, mst_semi hi.2.2.2.2.1] at h0
            by_cases hn' : op = []
            · exact .inr (.inr (.inr ⟨h4, by rw [hn']; rfl⟩))
            · rw [if_neg hn'] at h0; simp at h0
          · cases h5 : (cL (bt s k) || cN (bt s k))
            · rw [mst_bad hi.2.2.2.2.1 h1 h2 h3 h4 h5] at h0; simp at h0
            · rw [mst_plain h5] at h hi'
              exact .inl ⟨.inl rfl, good_of s n (k + 1) _ _ (by omega) hi' h⟩
      · rw [mst_close h2] at h h0 hi'
        by_cases hd : op ≠ [] ∧ bt s k = op.getLastD 0
        · rw [if_pos hd] at h hi'
          have hl : 0 < op.length := List.length_pos_iff.2 hd.1
          have := good_of s n (k + 1) _ _ (by omega) hi' h
          refine .inr (.inr (.inl ⟨rfl, op.length - 1, by omega, ?_⟩))
          simpa using this
        · rw [if_neg hd] at h0; simp at h0
    · rw [mst_open h1] at h h0 hi'
      by_cases hd : 5 ≤ op.length
      · rw [if_pos hd] at h0; simp at h0
      · rw [if_neg hd] at h hi'
        have := good_of s n (k + 1) _ _ (by omega) hi' h
        exact .inr (.inl ⟨rfl, by simpa using this⟩)

/-- what stands at a rule's beginning -/
def RuleAt (s : ByteArray) (j : Nat) : Prop := cN (bt s j) = true ∧ bt s (j + 1 : Nat) = 61 ∧ j + 2 ≤ s.size ∧ ∃ n, good s n (j + 2) 0

theorem rules_of (s : ByteArray) : ∀ n k a op al, n = s.size - k → Inv a op al → (fmF s n k a op al).1 = 0 →
    ∀ j, k ≤ j → j < s.size → (j = k → a = 0) → (k < j → bt s (j - 1 : Nat) = 59) → RuleAt s j
  | 0, k, a, op, al, hn, hi, h, j, h1, h2, _, _ => by omega
  | n + 1, k, a, op, al, hn, hi, h, j, hj1, hj2, hj3, hj4 => by
    by_cases h0 : (mst (bt s k) a op al).1 = 0
    case neg => exfalso; unfold fmF at h; rw [if_pos h0] at h; exact h0 h
    have hf : fmF s (n + 1) k a op al = fmF s n (k + 1) (mst (bt s k) a op al).2.1 (mst (bt s k) a op al).2.2.1 (mst (bt s k) a op al).2.2.2 := by
      conv => lhs; unfold fmF
      rw [if_neg (by simp [h0])]
    rw [hf] at h
    have hi' := hi.step h0
    by_cases e : j = k
    · subst e
      have ha := hj3 rfl
      subst ha
      rw [mst_name] at h h0 hi'
      by_cases hc : cN (bt s j) = true
      case neg => rw [if_neg hc] at h0; simp at h0
      rw [if_pos hc] at h hi'
      simp only at h hi'
      cases n with
      | zero => exfalso; unfold fmF at h; rw [if_pos (by simp)] at h; simp at h
      | succ n =>
        by_cases h1 : (mst (bt s (j + 1 : Nat)) 1 op al).1 = 0
        case neg => exfalso; unfold fmF at h; rw [if_pos h1] at h; exact h1 h
        have hf1 : fmF s (n + 1) (j + 1) 1 op al = fmF s n (j + 1 + 1) (mst (bt s (j + 1 : Nat)) 1 op al).2.1 (mst (bt s (j + 1 : Nat)) 1 op al).2.2.1 (mst (bt s (j + 1 : Nat)) 1 op al).2.2.2 := by
          conv => lhs; unfold fmF
          rw [if_neg (fun e => e h1)]
        rw [hf1] at h
        have hi2 := hi'.step h1
        rw [mst_eq] at h h1 hi2
        by_cases hc1 : bt s (j + 1 : Nat) = 61
        case neg => rw [if_neg hc1] at h1; simp at h1
        rw [if_pos hc1] at h hi2
        exact ⟨hc, hc1, by omega, n, good_of s n (j + 1 + 1) [] [1] (by omega) hi2 h⟩
    · have hlt : k < j := by omega
      have h59 := hj4 hlt
      refine rules_of s n (k + 1) _ _ _ (by omega) hi' h j (by omega) hj2 (fun e1 => ?_) (fun _ => h59)
      have hk : bt s k = 59 := by rw [show k = j - 1 by omega]; exact h59
      rw [hk] at h0 ⊢
      have hcn : cN 59 = false := by decide
      unfold mst at h0 ⊢
      by_cases ha0 : a = 0
      · rw [if_pos ha0, if_neg (by simp [hcn])] at h0; simp at h0
      · rw [if_neg ha0] at h0 ⊢
        by_cases ha1 : a = 1
        · rw [if_pos ha1, if_neg (by omega)] at h0; simp at h0
        · rw [if_neg ha1] at h0 ⊢
          by_cases hop : op = []
          · rw [if_pos ⟨rfl, hop⟩]
          · exfalso
            have ha2 : a = 2 := by have := hi.1; have := hi.2.1; omega
            subst ha2
            have := mst_semi (op := op) (al := al) hi.2.2.2.2.1
            rw [if_neg hop] at this
            unfold mst at this
            rw [if_neg (by omega), if_neg (by omega)] at this
            rw [this] at h0; simp at h0

theorem twF_all (s : ByteArray) : ∀ n i, (twF s n i).1 = 0 → ∀ j, i ≤ j → j < i + n → begB s j = true → rl s (bt s j) = j
  | 0, i, h, j, h1, h2, _ => by omega
  | n + 1, i, h, j, h1, h2, hb => by
    unfold twF at h
    by_cases hc : (begB s i && rl s (bt s i) != i) = true
    · rw [if_pos hc] at h; simp at h
    · rw [if_neg hc] at h
      by_cases e : j = i
      · subst e; simpa [hb] using hc
      · exact twF_all s n (i + 1) h j (by omega) (by omega) hb
theorem nmF_all (s : ByteArray) : ∀ n i, (nmF s n i).1 = 0 → ∀ j, i ≤ j → j < i + n → cN (bt s j) = true → rl s (bt s j) ≠ -1
  | 0, i, h, j, h1, h2, _ => by omega
  | n + 1, i, h, j, h1, h2, hb => by
    unfold nmF at h
    by_cases hc : (cN (bt s i) && rl s (bt s i) == -1) = true
    · rw [if_pos hc] at h; simp at h
    · rw [if_neg hc] at h
      by_cases e : j = i
      · subst e; simpa [hb] using hc
      · exact nmF_all s n (i + 1) h j (by omega) (by omega) hb
theorem rlF_spec (s : ByteArray) (c : Int) : ∀ n i j : Nat, rlF s c n i = (j : Int) → begB s j = true ∧ bt s j = c
  | 0, i, j, h => by simp only [rlF] at h; omega
  | n + 1, i, j, h => by
    unfold rlF at h
    by_cases hc : (begB s i && bt s i == c) = true
    · rw [if_pos hc] at h
      have : i = j := by omega
      subst this; simpa using hc
    · rw [if_neg hc] at h; exact rlF_spec s c n (i + 1) j h

/-- a grammar without a fault -/
structure Gram (s : ByteArray) : Prop where
  small : s.size ≤ 300
  pos : 0 < s.size
  rule : ∀ j, j < s.size → begB s j = true → RuleAt s j
  once : ∀ j, j < s.size → begB s j = true → rl s (bt s j) = j
  name : ∀ f : Nat, cN (bt s f) = true → ∃ j : Nat, rl s (bt s f) = (j : Int) ∧ j < s.size ∧ begB s j = true ∧ bt s j = bt s f

theorem gram_of {s : ByteArray} (h : (chk s).1 = 0) : Gram s := by
  unfold chk at h
  by_cases h1 : 300 < s.size
  · rw [if_pos h1] at h; simp at h
  rw [if_neg h1] at h
  by_cases h2 : (fmF s s.size 0 0 [] []).1 = 0
  case neg => rw [if_pos h2] at h; exact absurd h h2
  rw [if_neg (by simp [h2])] at h
  by_cases h3 : (twF s s.size 0).1 = 0
  case neg => rw [if_pos h3] at h; exact absurd h h3
  rw [if_neg (by simp [h3])] at h
  have hpos : 0 < s.size := by
    by_cases hp : 0 < s.size
    · exact hp
    · have h0 : s.size = 0 := by omega
      rw [h0] at h2; unfold fmF at h2; rw [if_pos (.inr h0)] at h2; simp at h2
  refine ⟨by omega, hpos, fun j hj hb => ?_, fun j hj hb => twF_all s _ 0 h3 j (by omega) (by omega) hb, fun f hf => ?_⟩
  · refine rules_of s s.size 0 0 [] [] (by omega) Inv.start h2 j (by omega) hj (fun _ => rfl) (fun hp => ?_)
    unfold begB at hb
    rw [beq_eq_false_iff_ne.2 (by omega), show (j : Int) - 1 = ((j - 1 : Nat) : Int) by omega] at hb
    simpa using hb
  · have hlt : f < s.size := bt_lt (by intro e; rw [e] at hf; revert hf; decide)
    have := nmF_all s _ 0 h f (by omega) (by omega) hf
    have hb := rl_bd s (bt s f)
    obtain ⟨j, hj⟩ : ∃ j : Nat, rl s (bt s f) = (j : Int) := ⟨(rl s (bt s f)).toNat, by omega⟩
    have := rlF_spec s (bt s f) s.size 0 j hj
    exact ⟨j, hj, by omega, this.1, this.2⟩
end Go.Proofs.YtnfaiaoipeholaaGreatDoor

namespace Go.Proofs.YtnfaiaoipeholaaGreatDoor
open Go.RowKit

set_option maxHeartbeats 400000 in
theorem isFactor_any (s : ByteArray) (p : Int) (f : Nat) (w : World) (hs : s.size ≤ 300) (hp : p = f) :
    Calls Tryz.prog 168 #[.string s, .int .i64 p] w fun e w' => e = .returned (.bool (isF s f)) ∧ w' = w := by
  subst hp
  have hs' : s.size ≤ maxLen := by unfold maxLen; omega
  cases h1 : cL (bt s f)
  · have h1' := hide h1
    cases h2 : cN (bt s f)
    · have h2' := hide h2
      have hi : isF s f = cO (bt s f) := by simp [isF, h1, h2]
      rw [hi]
      clear h1 h2 hi
      go_enter Tryz.func168, Tryz.ntmps168
      go_wp2_with (first | (go_at_call 87; refine (at_any _ _ _ hs').mono ?_; rintro e w' ⟨rfl, rfl⟩) | (go_at_call 102; refine (isLetter_any _ _).mono ?_; rintro e w' ⟨rfl, rfl⟩; rw [unhide h1']) | (go_at_call 86; refine (isName_any _ _).mono ?_; rintro e w' ⟨rfl, rfl⟩; rw [unhide h2']) | (go_at_call 92; refine (isOpening_any _ _).mono ?_; rintro e w' ⟨rfl, rfl⟩))
      go_ret; exact ⟨rfl, rfl⟩
    · have h2' := hide h2
      have hi : isF s f = true := by simp [isF, h2]
      rw [hi]
      clear h1 h2 hi
      go_enter Tryz.func168, Tryz.ntmps168
      go_wp2_with (first | (go_at_call 87; refine (at_any _ _ _ hs').mono ?_; rintro e w' ⟨rfl, rfl⟩) | (go_at_call 102; refine (isLetter_any _ _).mono ?_; rintro e w' ⟨rfl, rfl⟩; rw [unhide h1']) | (go_at_call 86; refine (isName_any _ _).mono ?_; rintro e w' ⟨rfl, rfl⟩; rw [unhide h2']))
      go_ret; exact ⟨rfl, rfl⟩
  · have h1' := hide h1
    have hi : isF s f = true := by simp [isF, h1]
    rw [hi]
    clear h1 hi
    go_enter Tryz.func168, Tryz.ntmps168
    go_wp2_with (first | (go_at_call 87; refine (at_any _ _ _ hs').mono ?_; rintro e w' ⟨rfl, rfl⟩) | (go_at_call 102; refine (isLetter_any _ _).mono ?_; rintro e w' ⟨rfl, rfl⟩; rw [unhide h1']))
    go_ret; exact ⟨rfl, rfl⟩

set_option maxHeartbeats 400000 in
theorem behind_any (s : ByteArray) (p : Int) (f : Nat) (w : World) (hs : s.size ≤ 300) (hp : p = f) (hf : f ≤ 300) :
    Calls Tryz.prog 169 #[.string s, .int .i64 p] w fun e w' => e = .returned (.int .i64 (bh s f)) ∧ w' = w := by
  subst hp
  have hs' : s.size ≤ maxLen := by unfold maxLen; omega
  go_enter Tryz.func169, Tryz.ntmps169
  go_wp2
  go_loop [5, 6] (fun d i => ∃ (k : Nat) (dd : Int), k ≤ 300 ∧ i = .int .i64 k ∧ d = .int .i64 dd ∧ -(k : Int) ≤ dd ∧ dd ≤ k ∧ Hid (bh s f = bhD s k dd)) (fun _ i => s.size - (intOf i).toNat)
  case atStart => exact ⟨f, 0, by omega, rfl, rfl, by omega, by omega, hide rfl⟩
  case round =>
    obtain ⟨k, dd, hk, rfl, rfl, hd1, hd2, hr⟩ := hrel
    by_cases hlt : k < s.size
    · cases h1 : cO (bt s k)
      · cases h2 : cX (bt s k)
        · have HD : Hid (dpt (bt s k) dd = dd) := hide (by simp [dpt, h1, h2])
          have h1' := hide h1; have h2' := hide h2; clear h1 h2
          by_cases hz : dd = 0
          · have hz' : (dd == 0) = true := by simp only [beq_iff_eq]; exact hz
            have HZ := hide hz; clear hz
            go_wp2_with (first | (go_at_call 87; refine (at_any _ _ _ hs').mono ?_; rintro e w' ⟨rfl, rfl⟩) | (go_at_call 92; refine (isOpening_any _ _).mono ?_; rintro e w' ⟨rfl, rfl⟩; rw [unhide h1']) | (go_at_call 140; refine (isClosing_any _ _).mono ?_; rintro e w' ⟨rfl, rfl⟩; rw [unhide h2']))
            go_ret
            exact ⟨ret_int (by rw [unhide hr, bhD_step hlt, unhide HD, if_pos (unhide HZ)]; go_num), rfl⟩
          · have hz' : (dd == 0) = false := by simp only [beq_eq_false_iff_ne]; exact hz
            have HZ := hide hz; clear hz
            go_wp2_with (first | (go_at_call 87; refine (at_any _ _ _ hs').mono ?_; rintro e w' ⟨rfl, rfl⟩) | (go_at_call 92; refine (isOpening_any _ _).mono ?_; rintro e w' ⟨rfl, rfl⟩; rw [unhide h1']) | (go_at_call 140; refine (isClosing_any _ _).mono ?_; rintro e w' ⟨rfl, rfl⟩; rw [unhide h2']))
            go_round
            case rel => exact ⟨k + 1, dd, by omega, by go_num, rfl, by omega, by omega, hide ((unhide hr).trans (by rw [bhD_step hlt, unhide HD, if_neg (unhide HZ)]))⟩
            case measure => simp [intOf]; omega
        · have HD : Hid (dpt (bt s k) dd = dd - 1) := hide (by simp [dpt, h1, h2])
          have h1' := hide h1; have h2' := hide h2; clear h1 h2
          by_cases hz : dd - 1 = 0
          · have hz' : (dd - 1 == 0) = true := by simp only [beq_iff_eq]; exact hz
            have HZ := hide hz; clear hz
            go_wp2_with (first | (go_at_call 87; refine (at_any _ _ _ hs').mono ?_; rintro e w' ⟨rfl, rfl⟩) | (go_at_call 92; refine (isOpening_any _ _).mono ?_; rintro e w' ⟨rfl, rfl⟩; rw [unhide h1']) | (go_at_call 140; refine (isClosing_any _ _).mono ?_; rintro e w' ⟨rfl, rfl⟩; rw [unhide h2']))
            go_ret
            exact ⟨ret_int (by rw [unhide hr, bhD_step hlt, unhide HD, if_pos (unhide HZ)]; go_num), rfl⟩
          · have hz' : (dd - 1 == 0) = false := by simp only [beq_eq_false_iff_ne]; exact hz
            have HZ := hide hz; clear hz
            go_wp2_with (first | (go_at_call 87; refine (at_any _ _ _ hs').mono ?_; rintro e w' ⟨rfl, rfl⟩) | (go_at_call 92; refine (isOpening_any _ _).mono ?_; rintro e w' ⟨rfl, rfl⟩; rw [unhide h1']) | (go_at_call 140; refine (isClosing_any _ _).mono ?_; rintro e w' ⟨rfl, rfl⟩; rw [unhide h2']))
            go_round
            case rel => exact ⟨k + 1, dd - 1, by omega, by go_num, rfl, by omega, by omega, hide ((unhide hr).trans (by rw [bhD_step hlt, unhide HD, if_neg (unhide HZ)]))⟩
            case measure => simp [intOf]; omega
      · have h2 : cX (bt s k) = false := by
          cases e : cX (bt s k)
          · rfl
          · have := cX_vals e; have := cO_vals h1; omega
        have HD : Hid (dpt (bt s k) dd = dd + 1) := hide (by simp [dpt, h1])
        have h1' := hide h1; have h2' := hide h2; clear h1 h2
        by_cases hz : dd + 1 = 0
        · have hz' : (dd + 1 == 0) = true := by simp only [beq_iff_eq]; exact hz
          have HZ := hide hz; clear hz
          go_wp2_with (first | (go_at_call 87; refine (at_any _ _ _ hs').mono ?_; rintro e w' ⟨rfl, rfl⟩) | (go_at_call 92; refine (isOpening_any _ _).mono ?_; rintro e w' ⟨rfl, rfl⟩; rw [unhide h1']) | (go_at_call 140; refine (isClosing_any _ _).mono ?_; rintro e w' ⟨rfl, rfl⟩; rw [unhide h2']))
          go_ret
          exact ⟨ret_int (by rw [unhide hr, bhD_step hlt, unhide HD, if_pos (unhide HZ)]; go_num), rfl⟩
        · have hz' : (dd + 1 == 0) = false := by simp only [beq_eq_false_iff_ne]; exact hz
          have HZ := hide hz; clear hz
          go_wp2_with (first | (go_at_call 87; refine (at_any _ _ _ hs').mono ?_; rintro e w' ⟨rfl, rfl⟩) | (go_at_call 92; refine (isOpening_any _ _).mono ?_; rintro e w' ⟨rfl, rfl⟩; rw [unhide h1']) | (go_at_call 140; refine (isClosing_any _ _).mono ?_; rintro e w' ⟨rfl, rfl⟩; rw [unhide h2']))
          go_round
          case rel => exact ⟨k + 1, dd + 1, by omega, by go_num, rfl, by omega, by omega, hide ((unhide hr).trans (by rw [bhD_step hlt, unhide HD, if_neg (unhide HZ)]))⟩
          case measure => simp [intOf]; omega
    · go_wp2
      go_ret
      exact ⟨ret_int (by rw [unhide hr, bhD_end hlt]), rfl⟩

set_option maxHeartbeats 400000 in
theorem endOfAlternative_any (s : ByteArray) (p : Int) (f : Nat) (w : World) (hs : s.size ≤ 300) (hp : p = f) (hf : f ≤ 400) :
    Calls Tryz.prog 183 #[.string s, .int .i64 p] w fun e w' => e = .returned (.int .i64 ((fe s f).2 : Nat)) ∧ w' = w := by
  subst hp
  go_enter Tryz.func183, Tryz.ntmps183
  go_wp2
  go_loop [1] (fun i => ∃ (k : Nat), k ≤ 400 ∧ i = .int .i64 k ∧ Hid ((fe s f).2 = (fe s k).2)) (fun i => s.size - (intOf i).toNat)
  case atStart => exact ⟨f, hf, rfl, hide rfl⟩
  case round =>
    obtain ⟨k, hk, rfl, hr⟩ := hrel
    cases h1 : isF s k
    · have h1' := hide h1; clear h1
      go_wp2_with (go_at_call 168; refine (isFactor_any _ _ k _ hs rfl).mono ?_; rintro e w' ⟨rfl, rfl⟩; rw [unhide h1'])
      go_ret
      exact ⟨ret_int (by rw [unhide hr, fe_no (unhide h1')]), rfl⟩
    · have hb := bh_bd h1
      have hl := isF_lt h1
      have h1' := hide h1; clear h1
      go_wp2_with (first | (go_at_call 168; refine (isFactor_any _ _ k _ hs rfl).mono ?_; rintro e w' ⟨rfl, rfl⟩; rw [unhide h1']) | (go_at_call 169; refine (behind_any _ _ k _ hs rfl (by omega)).mono ?_; rintro e w' ⟨rfl, rfl⟩))
      go_round
      case rel => exact ⟨bh s k, by omega, rfl, hide ((unhide hr).trans (by rw [fe_yes (unhide h1')]))⟩
      case measure => simp [intOf]; omega

/-- a place, or -1 -/
def pl (o : Option Nat) : Int := match o with
  | none => -1
  | some a => (a : Int)

/-- the alternative behind -/
def nx (s : ByteArray) (x : Nat) : Option Nat := if bt s (fe s x).2 = 124 then some ((fe s x).2 + 1) else none
theorem ap_nx (s : ByteArray) (k x y : Nat) (h : ap s k x = some y) : ap s (k + 1) x = nx s y := by
  rw [ap_last, h]; rfl
theorem pl_ne (y : Nat) : (pl (some y) != -1) = true := by
  have : pl (some y) = (y : Int) := rfl
  rw [this]; simp only [bne_iff_ne]; omega

set_option maxHeartbeats 400000 in
theorem next_any (s : ByteArray) (p : Int) (x : Nat) (w : World) (hs : s.size ≤ 300) (hp : p = x) (hx : x ≤ 302) :
    Calls Tryz.prog 166 #[.string s, .int .i64 p] w fun e w' => e = .returned (.int .i64 (pl (nx s x))) ∧ w' = w := by
  subst hp
  have hs' : s.size ≤ maxLen := by unfold maxLen; omega
  have hfb := fe_bd s x
  by_cases hb : bt s (fe s x).2 = 124
  · have hb' : (bt s (fe s x).2 != 124) = false := by simp [hb]
    have HA : Hid (pl (nx s x) = (fe s x).2 + 1) := hide (by unfold nx; rw [if_pos hb]; show (((fe s x).2 + 1 : Nat) : Int) = _; omega)
    clear hb
    go_enter Tryz.func166, Tryz.ntmps166
    go_wp2_with (first | (go_at_call 183; refine (endOfAlternative_any _ _ x _ hs rfl (by omega)).mono ?_; rintro e w' ⟨rfl, rfl⟩) | (go_at_call 87; refine (at_any _ _ _ hs').mono ?_; rintro e w' ⟨rfl, rfl⟩))
    go_ret
    exact ⟨ret_int (by rw [unhide HA]), rfl⟩
  · have hb' : (bt s (fe s x).2 != 124) = true := by simp [hb]
    have HA : Hid (pl (nx s x) = -1) := hide (by unfold nx; rw [if_neg hb]; rfl)
    clear hb
    go_enter Tryz.func166, Tryz.ntmps166
    go_wp2_with (first | (go_at_call 183; refine (endOfAlternative_any _ _ x _ hs rfl (by omega)).mono ?_; rintro e w' ⟨rfl, rfl⟩) | (go_at_call 87; refine (at_any _ _ _ hs').mono ?_; rintro e w' ⟨rfl, rfl⟩))
    go_ret
    exact ⟨ret_int (by rw [unhide HA]), rfl⟩

set_option maxHeartbeats 400000 in
theorem alternative_any (s : ByteArray) (p q : Int) (x n : Nat) (w : World) (hs : s.size ≤ 300) (hp : p = x) (hq : q = n) (hx : x ≤ 302) (hn : n ≤ 20) :
    Calls Tryz.prog 163 #[.string s, .int .i64 p, .int .i64 q] w fun e w' => e = .returned (.int .i64 (pl (ap s n x))) ∧ w' = w := by
  subst hp hq
  go_enter Tryz.func163, Tryz.ntmps163
  go_wp2
  go_loop [7, 8] (fun pv i => ∃ (k : Nat) (y : Int), k ≤ n ∧ i = .int .i64 k ∧ pv = .int .i64 y ∧ Hid (y = pl (ap s k x))) (fun _ i => n - (intOf i).toNat)
  case atStart => exact ⟨0, x, by omega, rfl, rfl, hide rfl⟩
  case round =>
    obtain ⟨k, y, hk, rfl, rfl, hr⟩ := hrel
    by_cases hlt : k < n
    · cases ho : ap s k x with
      | none =>
        have hy : y = -1 := by rw [unhide hr, ho]; rfl
        have hn' : Hid (ap s n x = none) := hide (ap_none ho n hk)
        subst hy
        clear hr ho
        go_wp2
        go_ret
        exact ⟨ret_int (by rw [unhide hn']; rfl), rfl⟩
      | some z =>
        have hy : y = z := by rw [unhide hr, ho]; rfl
        have hz := ap_bd ho
        have hne : ((z : Int) != -1) = true := pl_ne z
        have HA : Hid (pl (nx s z) = pl (ap s (k + 1) x)) := hide (by rw [ap_nx s k x z ho])
        subst hy
        clear hr ho
        go_wp2_with (go_at_call 166; refine (next_any _ _ z _ hs rfl (by omega)).mono ?_; rintro e w' ⟨rfl, rfl⟩)
        go_round
        case rel => exact ⟨k + 1, _, by omega, by go_num, rfl, hide (unhide HA)⟩
        case measure => simp [intOf]; omega
    · have hkn : k = n := by omega
      have hr2 := unhide hr
      rw [hkn] at hr2
      clear hr
      have HR := hide hr2; clear hr2
      go_wp2
      go_ret
      exact ⟨ret_int (unhide HR), rfl⟩

set_option maxHeartbeats 400000 in
theorem expression_any (s : ByteArray) (c : Int) (j : Nat) (w : World) (hs : s.size ≤ 300) (hj : rl s c = (j : Int)) (hj2 : j < s.size) :
    Calls Tryz.prog 88 #[.string s, .int .u8 c] w fun e w' => e = .returned (.int .i64 ((j : Int) + 2)) ∧ w' = w := by
  have hs' : s.size ≤ maxLen := by unfold maxLen; omega
  have HJ := hide hj; clear hj
  go_enter Tryz.func88, Tryz.ntmps88
  go_wp2_with (go_at_call 85; refine (firstRule_any _ _ _ hs').mono ?_; rintro e w' ⟨rfl, rfl⟩; rw [unhide HJ])
  go_ret
  exact ⟨rfl, rfl⟩

set_option maxHeartbeats 400000 in
theorem expression_none (s : ByteArray) (c : Int) (w : World) (hs : s.size ≤ 300) (hj : rl s c = -1) :
    Calls Tryz.prog 88 #[.string s, .int .u8 c] w fun e w' => e = .returned (.int .i64 (-1)) ∧ w' = w := by
  have hs' : s.size ≤ maxLen := by unfold maxLen; omega
  have HJ := hide hj; clear hj
  go_enter Tryz.func88, Tryz.ntmps88
  go_wp2_with (go_at_call 85; refine (firstRule_any _ _ _ hs').mono ?_; rintro e w' ⟨rfl, rfl⟩; rw [unhide HJ])
  go_ret
  exact ⟨rfl, rfl⟩

set_option maxHeartbeats 400000 in
theorem isDigit_any (c : Int) (w : World) : Calls Tryz.prog 90 #[.int .u8 c] w fun e w' => e = .returned (.bool (cD c)) ∧ w' = w := by
  go_enter Tryz.func90, Tryz.ntmps90
  go_wp2
  all_goals (go_ret; exact ⟨ret_bool (by simp [cD]; omega), rfl⟩)

set_option maxHeartbeats 400000 in
theorem greater_any (a b : Int) (w : World) : Calls Tryz.prog 98 #[.int .i64 a, .int .i64 b] w fun e w' => e = .returned (.int .i64 (max a b)) ∧ w' = w := by
  go_enter Tryz.func98, Tryz.ntmps98
  go_wp2
  all_goals (go_ret; exact ⟨ret_int (by omega), rfl⟩)
end Go.Proofs.YtnfaiaoipeholaaGreatDoor

namespace Go.Proofs.YtnfaiaoipeholaaGreatDoor

/-- factors, one behind the other -/
def pFs (g : Nat → Nat → Option (Nat × Nat)) : List Nat → Nat → Nat → Option (Nat × Nat)
  | [], i, top => some (i, top)
  | f :: l, i, top => match g f i with
    | none => none
    | some (j, h) => pFs g l j (max top h)
/-- elements up to a bracket -/
def pEl (t : ByteArray) (rec : Nat → Option (Nat × Nat)) (b : Int) (many : Bool) (most : Int) : Nat → Nat → Nat → Int → Option (Nat × Nat)
  | 0, _, _, _ => none
  | m + 1, i, top, cnt => match rec i with
    | none => none
    | some (j, h) => if 0 < most ∧ most < cnt + 1 then none else if bt t j = b then some (j + 1, max top h) else if bt t j = 44 ∧ many = true then pEl t rec b many most m (j + 1) (max top h) (cnt + 1) else none
/-- behind a bracket that opens -/
def pB (s t : ByteArray) (most : Int) (rec : Nat → Nat → Option (Nat × Nat)) (f i : Nat) : Option (Nat × Nat) :=
  if bt t i = cC (bt s f) ∧ (bt s f = 91 ∨ bt s f = 123) then some (i + 1, 0)
  else pEl t (rec (f + 1)) (cC (bt s f)) (decide (bt s f = 123 ∨ bt s f = 60)) most (t.size - i) i 0 0
/-- a name's brackets, from the place of the one that opens -/
def pN (s t : ByteArray) (rec : Nat → Nat → Option (Nat × Nat)) (f i : Nat) : Option (Nat × Nat) :=
  if bt t i ≠ 40 then none
  else match rec (rl s (bt s f) + 2).toNat (i + 1) with
    | none => none
    | some (j, h) => if bt t j = 41 then some (j + 1, h + 1) else none
/-- a factor -/
def pF (s t : ByteArray) (most : Int) (rec : Nat → Nat → Option (Nat × Nat)) (f i : Nat) : Option (Nat × Nat) :=
  if bt t i ≠ bt s f then none
  else if cL (bt s f) = true then some (i + 1, 0)
  else if cN (bt s f) = true then pN s t rec f (i + 1)
  else pB s t most rec f (i + 1)
/-- an expression -/
def pE (s t : ByteArray) (most : Int) : Nat → Nat → Nat → Option (Nat × Nat)
  | 0, _, _ => none
  | n + 1, x, i => if cD (bt t i) = true then
      match ap s (bt t i - 48).toNat x with
      | none => none
      | some a => pFs (pF s t most (pE s t most n)) (fe s a).1 (i + 1) 0
    else none
/-- the whole text -/
def whole (s t : ByteArray) (most : Int) : Option Nat :=
  if 2000 < t.size then none
  else match pF s t most (pE s t most (t.size + 1)) 0 0 with
    | none => none
    | some (j, h) => if j = t.size then some h else none
/-- P4 -/
def hgt (s t : ByteArray) : Int × Int :=
  if (chk s).1 ≠ 0 then (0, (chk s).1)
  else match whole s t 0 with
    | none => (0, 7)
    | some h => ((h : Int), 0)

/-- what is read lies behind, within the text, and is not higher than so much -/
def Fwd (t : ByteArray) (n i : Nat) (r : Option (Nat × Nat)) : Prop := ∀ j h, r = some (j, h) → i < j ∧ j ≤ t.size ∧ h ≤ n
theorem Fwd.none {t : ByteArray} {n i : Nat} : Fwd t n i none := by intro j h e; cases e
theorem pEl_fwd {t : ByteArray} {rec : Nat → Option (Nat × Nat)} {b : Int} {many : Bool} {most : Int} {n : Nat} (hr : ∀ i, Fwd t n i (rec i)) (hb : b ≠ 0) :
    ∀ m i top cnt, top ≤ n → Fwd t n i (pEl t rec b many most m i top cnt)
  | 0, i, top, cnt, _ => Fwd.none
  | m + 1, i, top, cnt, ht => by
    intro j h e
    unfold pEl at e
    cases hq : rec i with
    | none => rw [hq] at e; cases e
    | some q =>
      obtain ⟨a, c⟩ := q
      rw [hq] at e
      simp only at e
      have h1 := hr i a c hq
      split at e
      · cases e
      split at e
      · rename_i hb'
        have := bt_lt (s := t) (p := a) (by omega)
        simp at e; omega
      split at e
      · have := pEl_fwd hr hb m (a + 1) (max top c) (cnt + 1) (by omega) j h e; omega
      · cases e
theorem pB_fwd {s t : ByteArray} {most : Int} {rec : Nat → Nat → Option (Nat × Nat)} {n : Nat} (hr : ∀ x i, Fwd t n i (rec x i)) {f i : Nat} (hc : cC (bt s f) ≠ 0) : Fwd t n i (pB s t most rec f i) := by
  unfold pB; split
  · rename_i h
    have := bt_lt (s := t) (p := i) (by omega)
    intro j k e; simp at e; omega
  · exact pEl_fwd (hr (f + 1)) hc _ _ _ _ (by omega)
theorem pN_fwd {s t : ByteArray} {rec : Nat → Nat → Option (Nat × Nat)} {n : Nat} (hr : ∀ x i, Fwd t n i (rec x i)) {f i : Nat} : Fwd t (n + 1) i (pN s t rec f i) := by
  unfold pN; split
  · exact Fwd.none
  · intro j h e
    cases hq : rec (rl s (bt s f) + 2).toNat (i + 1) with
    | none => rw [hq] at e; cases e
    | some q =>
      obtain ⟨a, c⟩ := q
      rw [hq] at e
      simp only at e
      have h1 := hr _ _ a c hq
      split at e
      · have := bt_lt (s := t) (p := a) (by omega)
        simp at e; omega
      · cases e
theorem isF_cC {s : ByteArray} {f : Nat} (h : isF s f = true) (h1 : cL (bt s f) = false) (h2 : cN (bt s f) = false) : cC (bt s f) ≠ 0 := by
  simpa [isF, h1, h2, cO] using h
theorem pF_fwd {s t : ByteArray} {most : Int} {rec : Nat → Nat → Option (Nat × Nat)} {n : Nat} (hr : ∀ x i, Fwd t n i (rec x i)) {f i : Nat} (hf : isF s f = true) : Fwd t (n + 1) i (pF s t most rec f i) := by
  have hnz : bt s f ≠ 0 := by intro e; rw [isF, e] at hf; exact absurd hf (by decide)
  unfold pF; split
  · exact Fwd.none
  · rename_i he
    have hlt := bt_lt (s := t) (p := i) (by omega)
    split
    · intro j h e; simp at e; omega
    · rename_i hl
      split
      · intro j h e; have := pN_fwd hr j h e; omega
      · rename_i hn
        intro j h e; have := pB_fwd hr (isF_cC hf (by simpa using hl) (by simpa using hn)) j h e; omega
theorem pFs_fwd {t : ByteArray} {g : Nat → Nat → Option (Nat × Nat)} {n : Nat} : ∀ (l : List Nat) (i top : Nat), (∀ f ∈ l, ∀ i, Fwd t n i (g f i)) → top ≤ n → ∀ j h, pFs g l i top = some (j, h) → i ≤ j ∧ (j ≤ t.size ∨ j = i) ∧ h ≤ n
  | [], i, top, hg, ht, j, h, e => by simp [pFs] at e; omega
  | f :: l, i, top, hg, ht, j, h, e => by
    unfold pFs at e
    cases hq : g f i with
    | none => rw [hq] at e; cases e
    | some q =>
      obtain ⟨a, c⟩ := q
      rw [hq] at e
      have h1 := hg f (by simp) i a c hq
      have := pFs_fwd l a (max top c) (fun f' hf' => hg f' (by simp [hf'])) (by omega) j h e
      omega
theorem pE_fwd (s t : ByteArray) (most : Int) : ∀ n x i, Fwd t n i (pE s t most n x i)
  | 0, x, i => Fwd.none
  | n + 1, x, i => by
    unfold pE; split
    · rename_i hd
      have hlt := bt_lt (s := t) (p := i) (by intro e; rw [e] at hd; exact absurd hd (by decide))
      intro j h e
      cases hq : ap s (bt t i - 48).toNat x with
      | none => rw [hq] at e; cases e
      | some a =>
        rw [hq] at e
        have := pFs_fwd (t := t) (n := n + 1) (fe s a).1 (i + 1) 0 (fun f hf i => pF_fwd (fun x i => pE_fwd s t most n x i) (fe_mem hf).1) (by omega) j h e
        omega
    · exact Fwd.none
theorem pE_out {s t : ByteArray} {most : Int} {n x i : Nat} (h : t.size ≤ i) : pE s t most n x i = none := by
  cases n with
  | zero => rfl
  | succ n => unfold pE; rw [if_neg]; rw [bt_out t i (by omega)]; decide
/-- one element alone -/
theorem pEl_one {t : ByteArray} {rec : Nat → Option (Nat × Nat)} {b : Int} {i : Nat} (ho : t.size ≤ i → rec i = none) :
    pEl t rec b false 0 (t.size - i) i 0 0 = match rec i with
      | none => none
      | some (j, h) => if bt t j = b then some (j + 1, h) else none := by
  by_cases h : t.size ≤ i
  · rw [ho h, show t.size - i = 0 by omega]; rfl
  · obtain ⟨m, hm⟩ : ∃ m, t.size - i = m + 1 := ⟨t.size - i - 1, by omega⟩
    rw [hm]; unfold pEl
    cases rec i with
    | none => rfl
    | some q => simp
end Go.Proofs.YtnfaiaoipeholaaGreatDoor
