/- Places of a grammar, and trees read against them. No Go here. -/
import Derived.Test.YtnfaiaoipeholaaFormMath
namespace Go.Proofs.Ytnfaiaoipeholaa

/-- a factor begins here -/
def isF (s : ByteArray) (p : Nat) : Bool := cL (bt s p) || cN (bt s p) || cO (bt s p)
/-- how a byte turns the depth -/
def dpt (c : Int) (d : Int) : Int := if cO c then d + 1 else if cX c then d - 1 else d
/-- the place behind a factor -/
def bhF (s : ByteArray) : Nat → Nat → Int → Nat
  | 0, _, _ => s.size
  | n + 1, i, d => if dpt (bt s i) d = 0 then i + 1 else bhF s n (i + 1) (dpt (bt s i) d)
def bhD (s : ByteArray) (i : Nat) (d : Int) : Nat := bhF s (s.size - i) i d
def bh (s : ByteArray) (f : Nat) : Nat := bhD s f 0
theorem bhD_step {s : ByteArray} {i : Nat} {d : Int} (h : i < s.size) : bhD s i d = if dpt (bt s i) d = 0 then i + 1 else bhD s (i + 1) (dpt (bt s i) d) := by
  unfold bhD
  obtain ⟨n, hn⟩ : ∃ n, s.size - i = n + 1 := ⟨s.size - i - 1, by omega⟩
  rw [hn, show s.size - (i + 1) = n by omega]; rfl
theorem bhD_end {s : ByteArray} {i : Nat} {d : Int} (h : ¬ i < s.size) : bhD s i d = s.size := by
  unfold bhD; rw [show s.size - i = 0 by omega]; rfl
theorem bhF_bd (s : ByteArray) : ∀ n i d, n = s.size - i → i < s.size → i < bhF s n i d ∧ bhF s n i d ≤ s.size
  | 0, i, d, hn, hi => by omega
  | n + 1, i, d, hn, hi => by
    unfold bhF; split
    · omega
    · by_cases h : i + 1 < s.size
      · have := bhF_bd s n (i + 1) (dpt (bt s i) d) (by omega) h; omega
      · have : n = 0 := by omega
        subst this; simp only [bhF]; omega
theorem isF_lt {s : ByteArray} {p : Nat} (h : isF s p = true) : p < s.size := by
  by_cases hp : p < s.size
  · exact hp
  · rw [isF, bt_out s p (by omega)] at h; exact absurd h (by decide)
theorem bh_bd {s : ByteArray} {f : Nat} (h : isF s f = true) : f < bh s f ∧ bh s f ≤ s.size := bhF_bd s _ f 0 rfl (isF_lt h)
theorem bh_plain {s : ByteArray} {f : Nat} (h : f < s.size) (hc : (cL (bt s f) || cN (bt s f)) = true) : bh s f = f + 1 := by
  have hv : (97 ≤ bt s f ∧ bt s f ≤ 122) ∨ (65 ≤ bt s f ∧ bt s f ≤ 90) := by simpa [cL, cN] using hc
  have h1 : cO (bt s f) = false := by
    cases e : cO (bt s f)
    · rfl
    · have := cO_vals e; omega
  have h2 : cX (bt s f) = false := by
    cases e : cX (bt s f)
    · rfl
    · have := cX_vals e; omega
  unfold bh; rw [bhD_step h, if_pos]; simp [dpt, h1, h2]

/-- the places of an alternative's factors, and where it ends -/
def feF (s : ByteArray) : Nat → Nat → List Nat × Nat
  | 0, p => ([], p)
  | n + 1, p => if isF s p then (p :: (feF s n (bh s p)).1, (feF s n (bh s p)).2) else ([], p)
theorem feF_eq (s : ByteArray) : ∀ n m p, s.size - p ≤ n → s.size - p ≤ m → feF s n p = feF s m p
  | 0, 0, p, _, _ => rfl
  | 0, m + 1, p, h, _ => by
    have : isF s p = false := by cases e : isF s p with | false => rfl | true => have := isF_lt e; omega
    simp [feF, this]
  | n + 1, 0, p, _, h => by
    have : isF s p = false := by cases e : isF s p with | false => rfl | true => have := isF_lt e; omega
    simp [feF, this]
  | n + 1, m + 1, p, h1, h2 => by
    unfold feF; split
    · rename_i e
      have := bh_bd e
      have := isF_lt e
      rw [feF_eq s n m (bh s p) (by omega) (by omega)]
    · rfl
def fe (s : ByteArray) (p : Nat) : List Nat × Nat := feF s (s.size - p) p
theorem fe_yes {s : ByteArray} {p : Nat} (h : isF s p = true) : fe s p = (p :: (fe s (bh s p)).1, (fe s (bh s p)).2) := by
  have h1 := bh_bd h
  have h2 := isF_lt h
  unfold fe
  obtain ⟨n, hn⟩ : ∃ n, s.size - p = n + 1 := ⟨s.size - p - 1, by omega⟩
  rw [hn, feF_eq s (s.size - bh s p) n (bh s p) (by omega) (by omega)]
  simp [feF, h]
theorem fe_no {s : ByteArray} {p : Nat} (h : isF s p = false) : fe s p = ([], p) := by
  unfold fe
  cases s.size - p with
  | zero => rfl
  | succ n => simp [feF, h]
theorem feF_bd (s : ByteArray) : ∀ n p, p ≤ (feF s n p).2 ∧ ((feF s n p).2 ≤ s.size ∨ (feF s n p).2 = p)
  | 0, p => ⟨Nat.le_refl _, .inr rfl⟩
  | n + 1, p => by
    unfold feF; split
    · rename_i e
      have := bh_bd e
      have := feF_bd s n (bh s p)
      simp only; omega
    · exact ⟨Nat.le_refl _, .inr rfl⟩
theorem fe_bd (s : ByteArray) (p : Nat) : p ≤ (fe s p).2 ∧ ((fe s p).2 ≤ s.size ∨ (fe s p).2 = p) := feF_bd s _ p
theorem feF_len (s : ByteArray) : ∀ n p, (feF s n p).1.length ≤ n
  | 0, p => by simp [feF]
  | n + 1, p => by
    unfold feF; split
    · have := feF_len s n (bh s p); simp; omega
    · simp
theorem fe_len (s : ByteArray) (p : Nat) : (fe s p).1.length ≤ s.size := by
  have := feF_len s (s.size - p) p; unfold fe; omega
theorem feF_mem (s : ByteArray) : ∀ n p f, f ∈ (feF s n p).1 → isF s f = true ∧ p ≤ f
  | 0, p, f, h => by simp [feF] at h
  | n + 1, p, f, h => by
    unfold feF at h; split at h
    · rename_i e
      rcases List.mem_cons.1 h with h | h
      · subst h; exact ⟨e, Nat.le_refl _⟩
      · have := feF_mem s n (bh s p) f h; have := bh_bd e; exact ⟨by simp_all, by omega⟩
    · simp at h
theorem fe_mem {s : ByteArray} {p f : Nat} (h : f ∈ (fe s p).1) : isF s f = true ∧ p ≤ f := feF_mem s _ p f h

/-- where the alternative with a number begins -/
def ap (s : ByteArray) : Nat → Nat → Option Nat
  | 0, x => some x
  | k + 1, x => if bt s (fe s x).2 = 124 then ap s k ((fe s x).2 + 1) else none
theorem ap_last (s : ByteArray) : ∀ k x, ap s (k + 1) x = match ap s k x with
    | none => none
    | some a => if bt s (fe s a).2 = 124 then some ((fe s a).2 + 1) else none
  | 0, x => by simp [ap]
  | k + 1, x => by
    show (if bt s (fe s x).2 = 124 then ap s (k + 1) ((fe s x).2 + 1) else none) = _
    by_cases h : bt s (fe s x).2 = 124
    · rw [if_pos h, ap_last s k]; simp [ap, h]
    · rw [if_neg h]; simp [ap, h]
theorem ap_none {s : ByteArray} {x k : Nat} (h : ap s k x = none) : ∀ m, k ≤ m → ap s m x = none := by
  intro m hm
  induction m with
  | zero => have : k = 0 := by omega
            subst this; exact h
  | succ m ih =>
    by_cases e : k = m + 1
    · subst e; exact h
    · rw [ap_last, ih (by omega)]
theorem ap_bd {s : ByteArray} : ∀ {k x a : Nat}, ap s k x = some a → x ≤ a ∧ (a ≤ s.size ∨ a = x)
  | 0, x, a, h => by simp [ap] at h; omega
  | k + 1, x, a, h => by
    unfold ap at h; split at h
    · rename_i e
      have h1 := ap_bd h
      have h2 := fe_bd s x
      have h3 : (fe s x).2 < s.size := by
        by_cases h3 : (fe s x).2 < s.size
        · exact h3
        · rw [bt_out s _ (by omega)] at e; omega
      omega
    · simp at h

/-- where an expression ends -/
def eeF (s : ByteArray) : Nat → Nat → Nat
  | 0, x => (fe s x).2
  | n + 1, x => if bt s (fe s x).2 = 124 then eeF s n ((fe s x).2 + 1) else (fe s x).2
theorem bt_lt {s : ByteArray} {p : Nat} (h : bt s p ≠ 0) : p < s.size := by
  by_cases h3 : p < s.size
  · exact h3
  · exact absurd (bt_out s p (by omega)) h
theorem eeF_eq (s : ByteArray) : ∀ n m p, s.size - p ≤ n → s.size - p ≤ m → eeF s n p = eeF s m p
  | 0, 0, p, _, _ => rfl
  | 0, m + 1, p, h, _ => by
    have h2 := fe_bd s p
    have h1 : ¬ bt s (fe s p).2 = 124 := fun e => by have := bt_lt (s := s) (p := (fe s p).2) (by omega); omega
    simp [eeF, h1]
  | n + 1, 0, p, _, h => by
    have h2 := fe_bd s p
    have h1 : ¬ bt s (fe s p).2 = 124 := fun e => by have := bt_lt (s := s) (p := (fe s p).2) (by omega); omega
    simp [eeF, h1]
  | n + 1, m + 1, p, h1, h2 => by
    unfold eeF; split
    · rename_i e
      have h3 := bt_lt (s := s) (p := (fe s p).2) (by omega)
      have h4 := fe_bd s p
      rw [eeF_eq s n m _ (by omega) (by omega)]
    · rfl
def ee (s : ByteArray) (x : Nat) : Nat := eeF s (s.size - x) x
theorem ee_bar {s : ByteArray} {x : Nat} (h : bt s (fe s x).2 = 124) : ee s x = ee s ((fe s x).2 + 1) := by
  have h3 := bt_lt (s := s) (p := (fe s x).2) (by omega)
  have h4 := fe_bd s x
  unfold ee
  obtain ⟨n, hn⟩ : ∃ n, s.size - x = n + 1 := ⟨s.size - x - 1, by omega⟩
  rw [hn, eeF_eq s (s.size - ((fe s x).2 + 1)) n _ (by omega) (by omega)]
  simp [eeF, h]
theorem ee_end {s : ByteArray} {x : Nat} (h : bt s (fe s x).2 ≠ 124) : ee s x = (fe s x).2 := by
  unfold ee
  cases s.size - x with
  | zero => rfl
  | succ n => simp [eeF, h]
theorem ee_fac {s : ByteArray} {x : Nat} (h : isF s x = true) : ee s x = ee s (bh s x) := by
  have e : (fe s x).2 = (fe s (bh s x)).2 := by rw [fe_yes h]
  by_cases hb : bt s (fe s x).2 = 124
  · rw [ee_bar hb, e, ← ee_bar (by rw [← e]; exact hb)]
  · rw [ee_end hb, e, ← ee_end (by rw [← e]; exact hb)]

/-- the text goes on well, within so many brackets, up to a rule's end -/
def good (s : ByteArray) : Nat → Nat → Nat → Prop
  | 0, _, _ => False
  | n + 1, i, d =>
    ((cL (bt s i) || cN (bt s i)) = true ∨ bt s i = 124) ∧ good s n (i + 1) d ∨ cO (bt s i) = true ∧ good s n (i + 1) (d + 1) ∨
      cX (bt s i) = true ∧ (∃ d', d = d' + 1 ∧ good s n (i + 1) d') ∨ bt s i = 59 ∧ d = 0

theorem plain_not {c : Int} (h : (cL c || cN c) = true ∨ c = 124) : cO c = false ∧ cX c = false := by
  have hv : ((97 ≤ c ∧ c ≤ 122) ∨ (65 ≤ c ∧ c ≤ 90)) ∨ c = 124 := by
    rcases h with h | h
    · exact .inl (by simpa [cL, cN] using h)
    · exact .inr h
  constructor
  · cases e : cO c
    · rfl
    · have := cO_vals e; omega
  · cases e : cX c
    · rfl
    · have := cX_vals e; omega

theorem close_not {c : Int} (h : cX c = true) : cL c = false ∧ cN c = false ∧ cO c = false ∧ c ≠ 124 := by
  rcases cX_vals h with rfl | rfl | rfl | rfl <;> decide

/-- from within a bracket: where its expression ends, it closes; and a count of brackets goes on behind it as if it were not there -/
theorem inner (s : ByteArray) : ∀ n i d, good s n i (d + 1) → i ≤ ee s i ∧ ee s i < s.size ∧ cX (bt s (ee s i)) = true ∧ (∃ m, m < n ∧ good s m (ee s i + 1) d) ∧
    bhD s i 1 = ee s i + 1 ∧ ∀ e : Int, 1 < e → bhD s i e = bhD s (ee s i + 1) (e - 1) := by
  intro n
  induction n using Nat.strongRecOn with
  | _ n ih =>
  intro i d h
  cases n with
  | zero => exact absurd h (by simp [good])
  | succ n =>
  rcases h with ⟨hc, hg⟩ | ⟨hc, hg⟩ | ⟨hc, d', hd, hg⟩ | ⟨_, hd⟩
  · obtain ⟨n1, n2⟩ := plain_not hc
    have hlt : i < s.size := bt_lt (by rcases hc with hc | hc
                                       · intro e; rw [e] at hc; simp [cL, cN] at hc
                                       · omega)
    have hee : ee s i = ee s (i + 1) := by
      rcases hc with hc | hc
      · have hf : isF s i = true := by simp [isF, hc]
        rw [ee_fac hf, bh_plain hlt hc]
      · have hf : isF s i = false := by simp [isF, n1]; rw [hc]; decide
        have : (fe s i).2 = i := by rw [fe_no hf]
        rw [ee_bar (by rw [this]; exact hc), this]
    obtain ⟨a1, a2, a3, ⟨m, a4, a5⟩, a6, a7⟩ := ih n (by omega) (i + 1) d hg
    have hd1 : ∀ e : Int, 0 < e → bhD s i e = bhD s (i + 1) e := fun e he => by rw [bhD_step hlt]; simp [dpt, n1, n2]; omega
    rw [hee]
    refine ⟨by omega, a2, a3, ⟨m, by omega, a5⟩, by rw [hd1 1 (by omega)]; exact a6, fun e he => by rw [hd1 e (by omega)]; exact a7 e he⟩
  · have hlt : i < s.size := bt_lt (by intro e; rw [e] at hc; revert hc; decide)
    have hf : isF s i = true := by simp [isF, hc]
    obtain ⟨a1, a2, a3, ⟨m, a4, a5⟩, a6, a7⟩ := ih n (by omega) (i + 1) (d + 1) hg
    have hbh : bh s i = ee s (i + 1) + 1 := by
      unfold bh; rw [bhD_step hlt]; simp only [dpt, hc]; simp; exact a6
    have hee : ee s i = ee s (ee s (i + 1) + 1) := by rw [ee_fac hf, hbh]
    obtain ⟨b1, b2, b3, ⟨m2, b4, b5⟩, b6, b7⟩ := ih m (by omega) (ee s (i + 1) + 1) d a5
    have hd1 : ∀ e : Int, 0 < e → bhD s i e = bhD s (ee s (i + 1) + 1) e := fun e he => by
      have hdp : dpt (bt s i) e = e + 1 := by simp [dpt, hc]
      rw [bhD_step hlt, hdp, if_neg (by omega), a7 (e + 1) (by omega), show e + 1 - 1 = e by omega]
    rw [hee]
    refine ⟨by omega, b2, b3, ⟨m2, by omega, b5⟩, by rw [hd1 1 (by omega)]; exact b6, fun e he => by rw [hd1 e (by omega)]; exact b7 e he⟩
  · have hd' : d' = d := by omega
    subst hd'
    obtain ⟨n1, n2, n3, n4⟩ := close_not hc
    have hlt : i < s.size := bt_lt (by intro e; rw [e] at hc; revert hc; decide)
    have hf : isF s i = false := by simp [isF, n1, n2, n3]
    have h2 : (fe s i).2 = i := by rw [fe_no hf]
    have hee : ee s i = i := by rw [ee_end (by rw [h2]; exact n4), h2]
    rw [hee]
    refine ⟨Nat.le_refl _, hlt, hc, ⟨n, by omega, hg⟩, ?_, fun e he => ?_⟩
    · rw [bhD_step hlt]; simp [dpt, n3, hc]
    · rw [bhD_step hlt]; simp only [dpt, n3, hc]; rw [if_neg (by omega)]; rfl
  · omega
theorem bh_open {s : ByteArray} {n i d : Nat} (h : good s n (i + 1) (d + 1)) (hc : cO (bt s i) = true) : bh s i = ee s (i + 1) + 1 := by
  have hlt : i < s.size := bt_lt (by intro e; rw [e] at hc; revert hc; decide)
  unfold bh; rw [bhD_step hlt]; simp only [dpt, hc]; simp; exact (inner s n (i + 1) d h).2.2.2.2.1
end Go.Proofs.Ytnfaiaoipeholaa
