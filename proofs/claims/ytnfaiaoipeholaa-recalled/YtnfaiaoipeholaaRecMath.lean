/- A tree of a grammar: how many elements stand in a bracket; that it fits. No Go here. -/
import Derived.Test.YtnfaiaoipeholaaGenMath
namespace Go.Proofs.Ytnfaiaoipeholaa

/-- the commas of a bracket, counted -/
def elF (t : ByteArray) : Nat → Nat → Int → Nat → Nat
  | 0, _, _, c => c
  | n + 1, i, d, c => if d ≤ 0 then c else elF t n (i + 1) (dpt (bt t i) d) (if bt t i = 44 ∧ dpt (bt t i) d = 1 then c + 1 else c)
def elD (t : ByteArray) (i : Nat) (d : Int) (c : Nat) : Nat := elF t (t.size - i) i d c
/-- how many trees stand side by side in the bracket that opens here -/
def els (t : ByteArray) (p : Nat) : Nat := if cX (bt t (p + 1 : Nat)) = true then 0 else elD t (p + 1) 1 1
theorem elD_step {t : ByteArray} {i : Nat} {d : Int} {c : Nat} (h : i < t.size) (hd : 0 < d) : elD t i d c = elD t (i + 1) (dpt (bt t i) d) (if bt t i = 44 ∧ dpt (bt t i) d = 1 then c + 1 else c) := by
  unfold elD
  rw [show t.size - i = (t.size - (i + 1)) + 1 by omega]
  conv => lhs; unfold elF
  rw [if_neg (by omega)]
theorem elD_zero {t : ByteArray} {i : Nat} {d : Int} {c : Nat} (hd : d ≤ 0) : elD t i d c = c := by
  unfold elD
  cases t.size - i with
  | zero => rfl
  | succ n => unfold elF; rw [if_pos hd]
/-- a byte that is no bracket and no comma -/
theorem elD_plain {t : ByteArray} {i : Nat} {d : Int} {c : Nat} (h : i < t.size) (hd : 0 < d) (h1 : cO (bt t i) = false) (h2 : cX (bt t i) = false) (h3 : bt t i ≠ 44) : elD t i d c = elD t (i + 1) d c := by
  have e : dpt (bt t i) d = d := by simp [dpt, h1, h2]
  rw [elD_step h hd, e, if_neg (fun hh => h3 hh.1)]
theorem elD_open {t : ByteArray} {i : Nat} {d : Int} {c : Nat} (hd : 0 < d) (h1 : cO (bt t i) = true) : elD t i d c = elD t (i + 1) (d + 1) c := by
  have hl : i < t.size := bt_lt (by intro e; rw [e] at h1; revert h1; decide)
  have e : dpt (bt t i) d = d + 1 := by simp [dpt, h1]
  have h44 : bt t i ≠ 44 := by intro e; rw [e] at h1; revert h1; decide
  rw [elD_step hl hd, e, if_neg (fun hh => h44 hh.1)]
theorem elD_close {t : ByteArray} {i : Nat} {d : Int} {c : Nat} (hd : 0 < d) (h1 : cX (bt t i) = true) : elD t i d c = elD t (i + 1) (d - 1) c := by
  have hl : i < t.size := bt_lt (by intro e; rw [e] at h1; revert h1; decide)
  obtain ⟨_, _, h2, _⟩ := close_not h1
  have e : dpt (bt t i) d = d - 1 := by simp [dpt, h1, h2]
  have h44 : bt t i ≠ 44 := by intro e; rw [e] at h1; revert h1; decide
  rw [elD_step hl hd, e, if_neg (fun hh => h44 hh.1)]
theorem elD_comma {t : ByteArray} {i : Nat} {d : Int} {c : Nat} (hd : 0 < d) (h1 : bt t i = 44) : elD t i d c = elD t (i + 1) d (if d = 1 then c + 1 else c) := by
  have hl : i < t.size := bt_lt (by omega)
  have e : dpt (bt t i) d = d := by rw [h1]; simp [dpt, cO, cC, cX]
  rw [elD_step hl hd, e]
  simp [h1]

/-- what is skipped leaves the count as it is -/
def Skip (t : ByteArray) (i j : Nat) : Prop := ∀ (d : Int) (c : Nat), 0 < d → elD t i d c = elD t j d c
theorem Skip.trans {t : ByteArray} {i j k : Nat} (h : Skip t i j) (g : Skip t j k) : Skip t i k := fun d c hd => (h d c hd).trans (g d c hd)
/-- the number of elements that are read -/
def nEl (t : ByteArray) (rec : Nat → Option (Nat × Nat)) (b : Int) : Nat → Nat → Nat
  | 0, _ => 0
  | m + 1, i => match rec i with
    | none => 0
    | some (j, _) => if bt t j = b then 1 else nEl t rec b m (j + 1) + 1
section
variable {s t : ByteArray} {most : Int}
theorem pEl_skip {rec : Nat → Option (Nat × Nat)} {b : Int} {many : Bool} (hr : ∀ i j h, rec i = some (j, h) → Skip t i j) (hb : cX b = true) :
    ∀ m i top cnt j h, pEl t rec b many most m i top cnt = some (j, h) → ∀ (d : Int) (c : Nat), 0 < d → elD t i d c = elD t j (d - 1) (if d = 1 then c + (nEl t rec b m i - 1) else c) ∧ 1 ≤ nEl t rec b m i
  | 0, i, top, cnt, j, h, e => by cases e
  | m + 1, i, top, cnt, j, h, e => by
    intro d c hd
    unfold pEl at e
    cases hq : rec i with
    | none => rw [hq] at e; cases e
    | some q =>
      obtain ⟨a, k⟩ := q
      rw [hq] at e
      simp only at e
      have hs := hr i a k hq d c hd
      have hn : nEl t rec b (m + 1) i = if bt t a = b then 1 else nEl t rec b m (a + 1) + 1 := by simp only [nEl, hq]
      split at e
      · cases e
      split at e
      · rename_i hbb
        have hx : cX (bt t a) = true := by rw [hbb]; exact hb
        simp only [Option.some.injEq, Prod.mk.injEq] at e
        rw [hn, if_pos hbb, hs, elD_close hd hx, ← e.1]
        refine ⟨?_, Nat.le_refl _⟩
        split <;> rfl
      rename_i hbb
      split at e
      · rename_i hc
        obtain ⟨i1, i2⟩ := pEl_skip hr hb m (a + 1) (max top k) (cnt + 1) j h e d (if d = 1 then c + 1 else c) hd
        rw [hn, if_neg hbb, hs, elD_comma hd hc.1, i1]
        refine ⟨?_, by omega⟩
        by_cases hd1 : d = 1
        · simp only [if_pos hd1]; congr 1; omega
        · simp only [if_neg hd1]
      · cases e
theorem pB_skip {rec : Nat → Nat → Option (Nat × Nat)} (hr : ∀ x i j h, rec x i = some (j, h) → Skip t i j) {f i j h : Nat} (hb : cX (cC (bt s f)) = true) (e : pB s t most rec f i = some (j, h)) (d : Int) (c : Nat) (hd : 1 < d) : elD t i d c = elD t j (d - 1) c := by
  unfold pB at e
  split at e
  · rename_i hh
    simp only [Option.some.injEq, Prod.mk.injEq] at e
    rw [elD_close (by omega) (by rw [hh.1]; exact hb), e.1]
  · have := (pEl_skip (hr (f + 1)) hb _ _ _ _ _ _ e d c (by omega)).1
    rw [if_neg (by omega)] at this; exact this
theorem letter_not {c : Int} (h : (cL c || cN c || cD c) = true) : cO c = false ∧ cX c = false ∧ c ≠ 44 := by
  have hv : ((97 ≤ c ∧ c ≤ 122) ∨ (65 ≤ c ∧ c ≤ 90)) ∨ (48 ≤ c ∧ c ≤ 57) := by simpa [cL, cN, cD, or_assoc] using h
  refine ⟨?_, ?_, by omega⟩
  · cases e : cO c
    · rfl
    · have := cO_vals e; omega
  · cases e : cX c
    · rfl
    · have := cX_vals e; omega
theorem pF_skip {rec : Nat → Nat → Option (Nat × Nat)} (hr : ∀ x i j h, rec x i = some (j, h) → Skip t i j) {f i j h : Nat} (hf : isF s f = true) (e : pF s t most rec f i = some (j, h)) : Skip t i j := by
  intro d c hd
  have hnz : bt s f ≠ 0 := by intro e; rw [isF, e] at hf; exact absurd hf (by decide)
  unfold pF at e
  split at e
  · cases e
  rename_i hbt
  have hbt' : bt t i = bt s f := by omega
  have hl : i < t.size := bt_lt (by omega)
  split at e
  · rename_i hL
    obtain ⟨n1, n2, n3⟩ := letter_not (c := bt t i) (by rw [hbt', hL]; rfl)
    simp only [Option.some.injEq, Prod.mk.injEq] at e
    rw [elD_plain hl hd n1 n2 n3, e.1]
  rename_i hL
  split at e
  · rename_i hN
    obtain ⟨n1, n2, n3⟩ := letter_not (c := bt t i) (by rw [hbt', hN]; simp)
    unfold pN at e
    split at e
    · cases e
    rename_i h40
    have h40' : bt t (i + 1 : Nat) = 40 := by omega
    cases hq : rec (rl s (bt s f) + 2).toNat (i + 1 + 1) with
    | none => rw [hq] at e; cases e
    | some q =>
      obtain ⟨a, k⟩ := q
      rw [hq] at e
      simp only at e
      split at e
      · rename_i h41
        simp only [Option.some.injEq, Prod.mk.injEq] at e
        rw [elD_plain hl hd n1 n2 n3, elD_open hd (by rw [h40']; decide), hr _ _ _ _ hq (d + 1) c (by omega), elD_close (by omega) (by rw [h41]; decide), e.1]
        congr 1; omega
      · cases e
  · rename_i hN
    have hO : cO (bt s f) = true := by simpa [isF, hL, hN] using hf
    have hx : cX (cC (bt s f)) = true := cX_cC _ (by simpa [cO] using hO)
    rw [elD_open hd (by rw [hbt']; exact hO), pB_skip hr hx e (d + 1) c (by omega)]
    congr 1; omega
theorem pFs_skip {g : Nat → Nat → Option (Nat × Nat)} : ∀ (L : List Nat) (i top j h : Nat), (∀ f ∈ L, ∀ i j h, g f i = some (j, h) → Skip t i j) → pFs g L i top = some (j, h) → Skip t i j
  | [], i, top, j, h, _, e => by
    simp only [pFs, Option.some.injEq, Prod.mk.injEq] at e
    intro d c _; rw [e.1]
  | f :: L, i, top, j, h, hg, e => by
    unfold pFs at e
    cases hq : g f i with
    | none => rw [hq] at e; cases e
    | some q =>
      obtain ⟨a, k⟩ := q
      rw [hq] at e
      exact (hg f (by simp) i a k hq).trans (pFs_skip L a (max top k) j h (fun f' hf' => hg f' (by simp [hf'])) e)
theorem pE_skip (s t : ByteArray) (most : Int) : ∀ n x i j h, pE s t most n x i = some (j, h) → Skip t i j
  | 0, x, i, j, h, e => by cases e
  | n + 1, x, i, j, h, e => by
    unfold pE at e
    split at e
    · rename_i hD
      have hl : i < t.size := bt_lt (by intro e; rw [e] at hD; revert hD; decide)
      obtain ⟨n1, n2, n3⟩ := letter_not (c := bt t i) (by rw [hD]; simp)
      cases hq : ap s (bt t i - 48).toNat x with
      | none => rw [hq] at e; cases e
      | some a =>
        rw [hq] at e
        have h1 := pFs_skip (t := t) (fe s a).1 (i + 1) 0 j h (fun f hf i j h e => pF_skip (fun x i j h e => pE_skip s t most n x i j h e) (fe_mem hf).1 e) e
        intro d c hd
        rw [elD_plain hl hd n1 n2 n3]; exact h1 d c hd
    · cases e
/-- a name's brackets hold one tree -/
theorem els_name {n x i j h : Nat} (e : pE s t most n x (i + 1) = some (j, h)) (h41 : bt t j = 41) : els t i = 1 := by
  have hD : cD (bt t (i + 1 : Nat)) = true := by
    cases n with
    | zero => cases e
    | succ n =>
      unfold pE at e
      split at e
      · assumption
      · cases e
  obtain ⟨_, n2, _⟩ := letter_not (c := bt t (i + 1 : Nat)) (by rw [hD]; simp)
  unfold els
  rw [if_neg (by rw [n2]; decide), pE_skip s t most n x (i + 1) j h e 1 1 (by omega), elD_close (by omega) (by rw [h41]; decide), elD_zero (by omega)]
/-- the number of trees in a bracket, from the place behind what opens it -/
def nB (s t : ByteArray) (rec : Nat → Nat → Option (Nat × Nat)) (f i : Nat) : Nat :=
  if bt t i = cC (bt s f) ∧ (bt s f = 91 ∨ bt s f = 123) then 0 else nEl t (rec (f + 1)) (cC (bt s f)) (t.size - i) i
theorem els_bracket {n f i j h : Nat} (hO : cO (bt s f) = true) (e : pB s t most (pE s t most n) f (i + 1) = some (j, h)) : els t i = nB s t (pE s t most n) f (i + 1) := by
  have hx : cX (cC (bt s f)) = true := cX_cC _ (by simpa [cO] using hO)
  unfold pB at e
  unfold nB els
  split at e
  · rename_i hh
    rw [if_pos hh, if_pos (by rw [hh.1]; exact hx)]
  · rename_i hh
    rw [if_neg hh]
    obtain ⟨e1, e2⟩ := pEl_skip (rec := pE s t most n (f + 1)) (fun i j h e => pE_skip s t most n (f + 1) i j h e) hx _ _ _ _ _ _ e 1 1 (by omega)
    have hD : cD (bt t (i + 1 : Nat)) = true := by
      obtain ⟨m, hm⟩ : ∃ m, t.size - (i + 1) = m + 1 := by
        cases hh : t.size - (i + 1) with
        | zero => rw [hh] at e; cases e
        | succ m => exact ⟨m, rfl⟩
      rw [hm] at e
      unfold pEl at e
      cases n with
      | zero => cases e
      | succ n =>
        cases hq : pE s t most (n + 1) (f + 1) (i + 1) with
        | none => rw [hq] at e; cases e
        | some q =>
          unfold pE at hq
          split at hq
          · assumption
          · cases hq
    obtain ⟨_, n2, _⟩ := letter_not (c := bt t (i + 1 : Nat)) (by rw [hD]; simp)
    rw [if_neg (by rw [n2]; decide), e1, elD_zero (by omega), if_pos rfl]; omega
end
end Go.Proofs.Ytnfaiaoipeholaa
