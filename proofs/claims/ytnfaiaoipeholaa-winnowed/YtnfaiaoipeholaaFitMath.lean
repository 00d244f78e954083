/- What fits: of a factor, an alternative, an expression, a name; and that the least heights say the same. No Go here. -/
import Derived.Test.YtnfaiaoipeholaaLowMath
namespace Go.Proofs.Ytnfaiaoipeholaa

/-- does a factor fit, where it is known which names do, and which expressions -/
def facFit (s : ByteArray) (N rec : Nat → Bool) (f : Nat) : Bool :=
  if cN (bt s f) = true then N (bt s f - 65).toNat else if bt s f = 40 ∨ bt s f = 60 then rec (f + 1) else true
def altFit (s : ByteArray) (N rec : Nat → Bool) (L : List Nat) : Bool := L.all (facFit s N rec)
def expF (s : ByteArray) (N : Nat → Bool) : Nat → Nat → Bool
  | 0, _ => false
  | n + 1, x => (sts s x).any fun a => altFit s N (expF s N n) (fe s a).1
def expFit (s : ByteArray) (N : Nat → Bool) (x : Nat) : Bool := expF s N (s.size + 1) x
theorem altFit_congr {s : ByteArray} {N r r' : Nat → Bool} {L : List Nat} (h : ∀ f ∈ L, r (f + 1) = r' (f + 1)) : altFit s N r L = altFit s N r' L := by
  unfold altFit
  rw [Bool.eq_iff_iff, List.all_eq_true, List.all_eq_true]
  constructor <;> intro hh f hf <;> have := hh f hf <;> unfold facFit at * <;> simp only [h f hf] at * <;> assumption
theorem expF_eq (s : ByteArray) (N : Nat → Bool) : ∀ n m x, s.size + 1 - x ≤ n → s.size + 1 - x ≤ m → x ≤ s.size → expF s N n x = expF s N m x
  | 0, m, x, h1, h2, h3 => by omega
  | n + 1, 0, x, h1, h2, h3 => by omega
  | n + 1, m + 1, x, h1, h2, h3 => by
    unfold expF
    have : ∀ a ∈ sts s x, altFit s N (expF s N n) (fe s a).1 = altFit s N (expF s N m) (fe s a).1 := fun a ha => altFit_congr (fun f hf => by
      have hb := sts_bd ha
      have hf' := fe_mem hf
      have hl := isF_lt hf'.1
      exact expF_eq s N n m (f + 1) (by omega) (by omega) (by omega))
    rw [Bool.eq_iff_iff, List.any_eq_true, List.any_eq_true]
    constructor <;> rintro ⟨a, ha, hh⟩ <;> refine ⟨a, ha, ?_⟩ <;> simpa [this a ha] using hh
theorem expFit_step {s : ByteArray} {N : Nat → Bool} {x : Nat} : expFit s N x = (sts s x).any fun a => altFit s N (expFit s N) (fe s a).1 := by
  show ((sts s x).any fun a => altFit s N (expF s N s.size) (fe s a).1) = _
  have : ∀ a ∈ sts s x, altFit s N (expF s N s.size) (fe s a).1 = altFit s N (expFit s N) (fe s a).1 := fun a ha => altFit_congr (fun f hf => by
    have hb := sts_bd ha
    have hf' := fe_mem hf
    have hl := isF_lt hf'.1
    exact expF_eq s N s.size (s.size + 1) (f + 1) (by omega) (by omega) (by omega))
  rw [Bool.eq_iff_iff, List.any_eq_true, List.any_eq_true]
  constructor <;> rintro ⟨a, ha, hh⟩ <;> refine ⟨a, ha, ?_⟩ <;> simpa [this a ha] using hh

/-- a name stands in the text -/
def Occ (s : ByteArray) (i : Nat) : Prop := ∃ f : Nat, cN (bt s f) = true ∧ (bt s f - 65).toNat = i
theorem facFit_mono {s : ByteArray} {N N' r r' : Nat → Bool} (hN : ∀ i, Occ s i → N i = true → N' i = true) (hr : ∀ x, r x = true → r' x = true) {f : Nat} (h : facFit s N r f = true) : facFit s N' r' f = true := by
  unfold facFit at *
  split at h
  · rename_i hc; rw [if_pos hc]; exact hN _ ⟨f, hc, rfl⟩ h
  · rename_i hc
    rw [if_neg hc]
    split at h
    · rename_i hd; rw [if_pos hd]; exact hr _ h
    · rename_i hd; rw [if_neg hd]
theorem altFit_mono {s : ByteArray} {N N' r r' : Nat → Bool} (hN : ∀ i, Occ s i → N i = true → N' i = true) (hr : ∀ x, r x = true → r' x = true) {L : List Nat} (h : altFit s N r L = true) : altFit s N' r' L = true := by
  unfold altFit at *
  rw [List.all_eq_true] at *
  exact fun f hf => facFit_mono hN hr (h f hf)
theorem expF_mono {s : ByteArray} {N N' : Nat → Bool} (hN : ∀ i, Occ s i → N i = true → N' i = true) : ∀ n x, expF s N n x = true → expF s N' n x = true
  | 0, x, h => by cases h
  | n + 1, x, h => by
    unfold expF at *
    rw [List.any_eq_true] at *
    obtain ⟨a, ha, hh⟩ := h
    exact ⟨a, ha, altFit_mono hN (expF_mono hN n) hh⟩
theorem expFit_mono {s : ByteArray} {N N' : Nat → Bool} (hN : ∀ i, Occ s i → N i = true → N' i = true) {x : Nat} (h : expFit s N x = true) : expFit s N' x = true := expF_mono hN _ x h
theorem expFit_congr {s : ByteArray} {N N' : Nat → Bool} (hN : ∀ i, Occ s i → N i = N' i) (x : Nat) : expFit s N x = expFit s N' x := by
  rw [Bool.eq_iff_iff]
  exact ⟨expFit_mono (fun i hi h => by rw [← hN i hi]; exact h), expFit_mono (fun i hi h => by rw [hN i hi]; exact h)⟩
theorem altFit_cong {s : ByteArray} {N N' : Nat → Bool} (hN : ∀ i, Occ s i → N i = N' i) (L : List Nat) : altFit s N (expFit s N) L = altFit s N' (expFit s N') L := by
  rw [Bool.eq_iff_iff]
  exact ⟨altFit_mono (fun i hi h => by rw [← hN i hi]; exact h) (fun x h => by rw [← expFit_congr hN]; exact h), altFit_mono (fun i hi h => by rw [hN i hi]; exact h) (fun x h => by rw [expFit_congr hN]; exact h)⟩

/-- has a name a tree of its expression, so low that it fits where so much is left around the name -/
def nFit (s : ByteArray) : Nat → Nat → Bool
  | 0, _ => false
  | l + 1, i => expFit s (nFit s l) (rl s (65 + i : Nat) + 2).toNat
theorem nFit_mono (s : ByteArray) : ∀ l i, nFit s l i = true → nFit s (l + 1) i = true
  | 0, i, h => by cases h
  | l + 1, i, h => by
    show expFit s (nFit s (l + 1)) _ = true
    exact expFit_mono (fun i _ h => nFit_mono s l i h) h

/-- by heights -/
theorem topH_le {s : ByteArray} {nm rec : Nat → Int} {l : Int} : ∀ (L : List Nat) (top : Int), topH s nm rec L top ≤ l ↔ top ≤ l ∧ ∀ f ∈ L, facH s nm rec f ≤ l
  | [], top => by simp [topH]
  | f :: L, top => by
    show topH s nm rec L (max top (facH s nm rec f)) ≤ l ↔ _
    rw [topH_le L]
    simp only [List.mem_cons, forall_eq_or_imp]
    constructor
    · rintro ⟨h1, h2⟩; exact ⟨by omega, by omega, h2⟩
    · rintro ⟨h1, h2, h3⟩; exact ⟨by omega, h3⟩
theorem minH_le {s : ByteArray} {nm rec : Nat → Int} {l : Int} : ∀ (al : List Nat) (best : Int), minH s nm rec al best ≤ l ↔ best ≤ l ∨ ∃ a ∈ al, altH s nm rec (fe s a).1 ≤ l
  | [], best => by simp [minH]
  | a :: al, best => by
    show minH s nm rec al (if altH s nm rec (fe s a).1 < best then altH s nm rec (fe s a).1 else best) ≤ l ↔ _
    rw [minH_le al]
    simp only [List.mem_cons, exists_eq_or_imp]
    constructor
    · rintro (h | h)
      · split at h
        · exact .inr (.inl h)
        · exact .inl h
      · exact .inr (.inr h)
    · rintro (h | h | h)
      · refine .inl ?_; split <;> omega
      · refine .inl ?_; split <;> omega
      · exact .inr h
theorem altH_fit {s : ByteArray} {nm rec : Nat → Int} {N r : Nat → Bool} {l : Int} (h0 : 0 ≤ l) (h9 : l < 99) (hN : ∀ i, (nm i + 1 ≤ l) ↔ N i = true) (hr : ∀ x, rec x ≤ l ↔ r x = true) (L : List Nat) : altH s nm rec L ≤ l ↔ altFit s N r L = true := by
  have h1 : altH s nm rec L ≤ l ↔ topH s nm rec L 0 ≤ l := by unfold altH; split <;> omega
  rw [h1, topH_le]
  unfold altFit
  rw [List.all_eq_true]
  have hf : ∀ f, facH s nm rec f ≤ l ↔ facFit s N r f = true := fun f => by
    unfold facH facFit
    split
    · exact hN _
    split
    · exact hr _
    · simpa using h0
  exact ⟨fun h f hm => (hf f).1 (h.2 f hm), fun h => ⟨h0, fun f hm => (hf f).2 (h f hm)⟩⟩
theorem lowF_fit {s : ByteArray} {nm : Nat → Int} {N : Nat → Bool} {l : Int} (h0 : 0 ≤ l) (h9 : l < 99) (hN : ∀ i, (nm i + 1 ≤ l) ↔ N i = true) : ∀ n x, lowF s nm n x ≤ l ↔ expF s N n x = true
  | 0, x => by simp [lowF, expF]; omega
  | n + 1, x => by
    unfold lowF expF
    rw [minH_le, List.any_eq_true]
    constructor
    · rintro (h | ⟨a, ha, h⟩)
      · omega
      · exact ⟨a, ha, (altH_fit h0 h9 hN (lowF_fit h0 h9 hN n) _).1 h⟩
    · rintro ⟨a, ha, h⟩
      exact .inr ⟨a, ha, (altH_fit h0 h9 hN (lowF_fit h0 h9 hN n) _).2 h⟩
theorem low_fit {s : ByteArray} {nm : Nat → Int} {l : Int} (h0 : 0 ≤ l) (h9 : l < 99) (x : Nat) : low s nm x ≤ l ↔ expFit s (fun i => decide (nm i + 1 ≤ l)) x = true :=
  lowF_fit h0 h9 (fun i => by simp) _ x
theorem altH_fit' {s : ByteArray} {nm : Nat → Int} {l : Int} (h0 : 0 ≤ l) (h9 : l < 99) (L : List Nat) : altH s nm (low s nm) L ≤ l ↔ altFit s (fun i => decide (nm i + 1 ≤ l)) (expFit s (fun i => decide (nm i + 1 ≤ l))) L = true :=
  altH_fit h0 h9 (fun i => by simp) (low_fit h0 h9) L

/-- the program's: from one height to the next -/
def pw (s : ByteArray) : Nat → Nat → Int
  | 0 => fun _ => 9
  | h + 1 => fun i => if pw s h i = 9 ∧ rl s (65 + i : Nat) ≠ -1 ∧ expFit s (fun j => decide (pw s h j < h)) (rl s (65 + i : Nat) + 2).toNat = true then h else pw s h i
theorem pw_succ (s : ByteArray) (h i : Nat) : pw s (h + 1) i = if pw s h i = 9 ∧ rl s (65 + i : Nat) ≠ -1 ∧ expFit s (fun j => decide (pw s h j < h)) (rl s (65 + i : Nat) + 2).toNat = true then (h : Int) else pw s h i := rfl
theorem pw_bd (s : ByteArray) : ∀ h i, h ≤ 9 → 0 ≤ pw s h i ∧ pw s h i ≤ 9 ∧ (pw s h i = 9 ∨ pw s h i < h)
  | 0, i, _ => by simp [pw]
  | h + 1, i, hh => by
    have := pw_bd s h i (by omega)
    rw [pw_succ]; split <;> omega
theorem pw_fit {s : ByteArray} (hO : ∀ j, Occ s j → rl s (65 + j : Nat) ≠ -1) : ∀ h, h ≤ 9 → ∀ i l, Occ s i → l ≤ h → (pw s h i < (l : Nat) ↔ nFit s l i = true)
  | 0, _, i, l, _, hl => by
    have : l = 0 := by omega
    subst this; simp [pw, nFit]
  | h + 1, hh, i, l, hi, hl => by
    have ih := pw_fit hO h (by omega)
    have hb := pw_bd s h i (by omega)
    have hr := hO i hi
    by_cases e : l = h + 1
    · subst e
      have e1 : nFit s (h + 1) i = expFit s (fun j => decide (pw s h j < h)) (rl s (65 + i : Nat) + 2).toNat := by
        show expFit s (nFit s h) _ = _
        refine expFit_congr (fun j hj => ?_) _
        rw [Bool.eq_iff_iff]; simp only [decide_eq_true_eq]; exact (ih j h hj (Nat.le_refl _)).symm
      rw [e1, pw_succ]
      by_cases h9 : pw s h i = 9
      · constructor
        · intro hlt
          split at hlt
          · rename_i hc; exact hc.2.2
          · omega
        · intro hf; rw [if_pos ⟨h9, hr, hf⟩]; omega
      · rw [if_neg (fun hc => h9 hc.1)]
        have hlt : pw s h i < h := by omega
        have := nFit_mono s h i ((ih i h hi (Nat.le_refl _)).1 hlt)
        rw [e1] at this
        simp only [this, iff_true]; omega
    · have hl' : l ≤ h := by omega
      rw [← ih i l hi hl', pw_succ]
      split
      · rename_i hc; rw [hc.1]; omega
      · exact Iff.rfl
end Go.Proofs.Ytnfaiaoipeholaa
