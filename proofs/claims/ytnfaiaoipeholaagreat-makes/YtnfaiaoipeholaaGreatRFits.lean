/- The reference's least heights say what fits. -/
import Derived.Test.YtnfaiaoipeholaaGreatFitMath
import Derived.Test.YtnfaiaoipeholaaGreatRLows
namespace Go.Proofs.YtnfaiaoipeholaaGreat

theorem occ_rl {s : ByteArray} (g : Gram s) {i : Nat} (h : Occ s i) : i < 26 ∧ ∃ j : Nat, rl s (65 + i : Nat) = (j : Int) ∧ j < s.size ∧ begB s j = true ∧ bt s j = (65 + i : Nat) := by
  obtain ⟨f, hf, hi⟩ := h
  have hv : 65 ≤ bt s f ∧ bt s f ≤ 90 := by simpa [cN] using hf
  have e : bt s f = ((65 + i : Nat) : Int) := by omega
  obtain ⟨j, h1, h2, h3, h4⟩ := g.name f hf
  rw [e] at h1 h4
  exact ⟨by omega, j, h1, h2, h3, h4⟩

def Snd (s : ByteArray) (nm : Nat → Int) : Prop := ∀ i, Occ s i → ∀ l : Nat, l ≤ 90 → nm i < l → nFit s l i = true
theorem snd_step {s : ByteArray} {nm : Nat → Int} (hn : Nms nm) (h : Snd s nm) (i : Nat) : Snd s (lowStep s nm i) := by
  unfold lowStep; split
  · exact h
  · intro j hj l hl hlt
    unfold nmU at hlt
    split at hlt
    · rename_i e
      subst e
      have hb := low_bd (s := s) hn (rl s (65 + j : Nat) + 2).toNat
      obtain ⟨m, rfl⟩ : ∃ m, l = m + 1 := ⟨l - 1, by omega⟩
      have h1 := (low_fit (s := s) (nm := nm) (l := (m : Nat)) (by omega) (by omega) (rl s (65 + j : Nat) + 2).toNat).1 (by omega)
      show expFit s (nFit s m) _ = true
      refine expFit_mono (fun k hk hd => ?_) h1
      simp only [decide_eq_true_eq] at hd
      exact h k hk m (by omega) (by omega)
    · exact h j hj l hl hlt
theorem snd_row {s : ByteArray} {nm : Nat → Int} (hn : Nms nm) (h : Snd s nm) : ∀ n, Snd s (lowRow s nm n)
  | 0 => h
  | n + 1 => snd_step (nms_row hn n) (snd_row hn h n) n
theorem snd_lows (s : ByteArray) : ∀ r, Snd s (lowsF s r)
  | 0 => fun i _ l hl hlt => by have : (99 : Int) < l := hlt; omega
  | r + 1 => snd_row (nms_lows s r) (snd_lows s r) 26

def Cmp (s : ByteArray) (nm : Nat → Int) (i r : Nat) : Prop := ∀ l : Nat, l ≤ r → nFit s l i = true → nm i < l
theorem cmp_row {s : ByteArray} (g : Gram s) {nm : Nat → Int} {r : Nat} (hr : r ≤ 30) (hn : Nms nm) (h : ∀ i, Occ s i → Cmp s nm i r) : ∀ n, ∀ i, Occ s i → Cmp s (lowRow s nm n) i (if i < n then r + 1 else r)
  | 0, i, hi => by simpa [lowRow] using h i hi
  | n + 1, i, hi => by
    have ih := cmp_row g hr hn h n
    have hall : ∀ j, Occ s j → Cmp s (lowRow s nm n) j r := fun j hj l hl hf => ih j hj l (by split <;> omega) hf
    show Cmp s (lowStep s (lowRow s nm n) n) i _
    obtain ⟨_, j, hj, _⟩ := occ_rl g hi
    unfold lowStep
    split
    · rename_i hm
      intro l hl hf
      by_cases e : i = n
      · subst e; omega
      · exact ih i hi l (by split at hl <;> split <;> omega) hf
    · intro l hl hf
      unfold nmU
      split
      · rename_i e
        subst e
        rw [if_pos (by omega)] at hl
        cases l with
        | zero => cases hf
        | succ m =>
          have h1 : expFit s (fun k => decide (lowRow s nm i k + 1 ≤ (m : Nat))) (rl s (65 + i : Nat) + 2).toNat = true := by
            refine expFit_mono (fun k hk hd => ?_) hf
            have := hall k hk m (by omega) hd
            simp only [decide_eq_true_eq]; omega
          have := (low_fit (s := s) (nm := lowRow s nm i) (l := (m : Nat)) (by omega) (by omega) _).2 h1
          omega
      · exact ih i hi l (by split at hl <;> split <;> omega) hf
theorem cmp_lows {s : ByteArray} (g : Gram s) : ∀ r, r ≤ 30 → ∀ i, Occ s i → Cmp s (lowsF s r) i r
  | 0, _, i, hi => fun l hl hf => by
    have : l = 0 := by omega
    subst this; cases hf
  | r + 1, hr, i, hi => by
    have := cmp_row g (by omega) (nms_lows s r) (cmp_lows g r (by omega)) 26 i hi
    rw [if_pos (occ_rl g hi).1] at this
    exact this
/-- by name -/
theorem lows_fit {s : ByteArray} (g : Gram s) {i l : Nat} (hi : Occ s i) (hl : l ≤ 20) : (lowsF s 27 i < (l : Nat)) ↔ nFit s l i = true :=
  ⟨snd_lows s 27 i hi l (by omega), cmp_lows g 27 (by omega) i hi l (by omega)⟩
/-- of an expression -/
theorem low_nFit {s : ByteArray} (g : Gram s) {l : Nat} (hl : l ≤ 20) (x : Nat) : (low s (lowsF s 27) x ≤ (l : Nat)) ↔ expFit s (nFit s l) x = true := by
  rw [low_fit (by omega) (by omega)]
  have : expFit s (fun i => decide (lowsF s 27 i + 1 ≤ (l : Nat))) x = expFit s (nFit s l) x := expFit_congr (fun i hi => by
    rw [Bool.eq_iff_iff, ← lows_fit g hi hl]; simp only [decide_eq_true_eq]; omega) x
  rw [this]
/-- of an alternative -/
theorem alt_nFit {s : ByteArray} (g : Gram s) {l : Nat} (hl : l ≤ 20) (L : List Nat) : (altH s (lowsF s 27) (low s (lowsF s 27)) L ≤ (l : Nat)) ↔ altFit s (nFit s l) (expFit s (nFit s l)) L = true := by
  rw [altH_fit' (by omega) (by omega)]
  have : altFit s (fun i => decide (lowsF s 27 i + 1 ≤ (l : Nat))) (expFit s (fun i => decide (lowsF s 27 i + 1 ≤ (l : Nat)))) L = altFit s (nFit s l) (expFit s (nFit s l)) L := altFit_cong (fun i hi => by
    rw [Bool.eq_iff_iff, ← lows_fit g hi hl]; simp only [decide_eq_true_eq]; omega) L
  rw [this]
end Go.Proofs.YtnfaiaoipeholaaGreat
