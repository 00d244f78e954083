/- A tree of a grammar: how many elements stand in a bracket; that it fits. No Go here. -/
import Derived.Test.YtnfaiaoipeholaaGenMath
import Derived.Test.YtnfaiaoipeholaaMakeMath
namespace Go.Proofs.Ytnfaiaoipeholaa

/-- the commas of a bracket, counted -/
def elF (t : ByteArray) : Nat → Nat → Int → Nat → Nat
  | 0, _, _, c => c
  | n + 1, i, d, c => if d ≤ 0 then c else elF t n (i + 1) (dpt (bt t i) d) (if bt t i = 44 ∧ dpt (bt t i) d = 1 then c + 1 else c)
def elD (t : ByteArray) (i : Nat) (d : Int) (c : Nat) : Nat := elF t (t.size - i) i d c
/-- how many trees stand side by side in the bracket that opens here -/
def els (t : ByteArray) (p : Nat) : Nat := if cX (bt t (p + 1 : Nat)) = true then 0 else elD t (p + 1) 1 1
theorem elD_step {t : ByteArray} {i : Nat} {d : Int} {c : Nat} (h : i < t.size) (hd : 0 < d) : elD t i d c = elD t (i + 1) (dpt (bt t i) d) (if bt t i = 44 ∧ dpt (bt t i) d = 1 then c + 1 else c) := by
  unfold elD
  rw [show t.size - i = (t.size - (i + 1)) + 1 by omega]
  conv => lhs; unfold elF
  rw [if_neg (by omega)]
theorem elD_zero {t : ByteArray} {i : Nat} {d : Int} {c : Nat} (hd : d ≤ 0) : elD t i d c = c := by
  unfold elD
  cases t.size - i with
  | zero => rfl
  | succ n => unfold elF; rw [if_pos hd]
/-- a byte that is no bracket and no comma -/
theorem elD_plain {t : ByteArray} {i : Nat} {d : Int} {c : Nat} (h : i < t.size) (hd : 0 < d) (h1 : cO (bt t i) = false) (h2 : cX (bt t i) = false) (h3 : bt t i ≠ 44) : elD t i d c = elD t (i + 1) d c := by
  have e : dpt (bt t i) d = d := by simp [dpt, h1, h2]
  rw [elD_step h hd, e, if_neg (fun hh => h3 hh.1)]
theorem elD_open {t : ByteArray} {i : Nat} {d : Int} {c : Nat} (hd : 0 < d) (h1 : cO (bt t i) = true) : elD t i d c = elD t (i + 1) (d + 1) c := by
  have hl : i < t.size := bt_lt (by intro e; rw [e] at h1; revert h1; decide)
  have e : dpt (bt t i) d = d + 1 := by simp [dpt, h1]
  have h44 : bt t i ≠ 44 := by intro e; rw [e] at h1; revert h1; decide
  rw [elD_step hl hd, e, if_neg (fun hh => h44 hh.1)]
theorem elD_close {t : ByteArray} {i : Nat} {d : Int} {c : Nat} (hd : 0 < d) (h1 : cX (bt t i) = true) : elD t i d c = elD t (i + 1) (d - 1) c := by
  have hl : i < t.size := bt_lt (by intro e; rw [e] at h1; revert h1; decide)
  obtain ⟨_, _, h2, _⟩ := close_not h1
  have e : dpt (bt t i) d = d - 1 := by simp [dpt, h1, h2]
  have h44 : bt t i ≠ 44 := by intro e; rw [e] at h1; revert h1; decide
  rw [elD_step hl hd, e, if_neg (fun hh => h44 hh.1)]
theorem elD_comma {t : ByteArray} {i : Nat} {d : Int} {c : Nat} (hd : 0 < d) (h1 : bt t i = 44) : elD t i d c = elD t (i + 1) d (if d = 1 then c + 1 else c) := by
  have hl : i < t.size := bt_lt (by omega)
  have e : dpt (bt t i) d = d := by rw [h1]; simp [dpt, cO, cC, cX]
  rw [elD_step hl hd, e]
  simp [h1]

/-- what is skipped leaves the count as it is -/
def Skip (t : ByteArray) (i j : Nat) : Prop := ∀ (d : Int) (c : Nat), 0 < d → elD t i d c = elD t j d c
theorem Skip.trans {t : ByteArray} {i j k : Nat} (h : Skip t i j) (g : Skip t j k) : Skip t i k := fun d c hd => (h d c hd).trans (g d c hd)
/-- the number of elements that are read -/
def nEl (t : ByteArray) (rec : Nat → Option (Nat × Nat)) (b : Int) : Nat → Nat → Nat
  | 0, _ => 0
  | m + 1, i => match rec i with
    | none => 0
    | some (j, _) => if bt t j = b then 1 else nEl t rec b m (j + 1) + 1
section
variable {s t : ByteArray} {most : Int}
theorem pEl_skip {rec : Nat → Option (Nat × Nat)} {b : Int} {many : Bool} (hr : ∀ i j h, rec i = some (j, h) → Skip t i j) (hb : cX b = true) :
    ∀ m i top cnt j h, pEl t rec b many most m i top cnt = some (j, h) → ∀ (d : Int) (c : Nat), 0 < d → elD t i d c = elD t j (d - 1) (if d = 1 then c + (nEl t rec b m i - 1) else c) ∧ 1 ≤ nEl t rec b m i
  | 0, i, top, cnt, j, h, e => by cases e
  | m + 1, i, top, cnt, j, h, e => by
    intro d c hd
    unfold pEl at e
    cases hq : rec i with
    | none => rw [hq] at e; cases e
    | some q =>
      obtain ⟨a, k⟩ := q
      rw [hq] at e
      simp only at e
      have hs := hr i a k hq d c hd
      have hn : nEl t rec b (m + 1) i = if bt t a = b then 1 else nEl t rec b m (a + 1) + 1 := by simp only [nEl, hq]
      split at e
      · cases e
      split at e
      · rename_i hbb
        have hx : cX (bt t a) = true := by rw [hbb]; exact hb
        simp only [Option.some.injEq, Prod.mk.injEq] at e
        rw [hn, if_pos hbb, hs, elD_close hd hx, ← e.1]
        refine ⟨?_, Nat.le_refl _⟩
        split <;> rfl
      rename_i hbb
      split at e
      · rename_i hc
        obtain ⟨i1, i2⟩ := pEl_skip hr hb m (a + 1) (max top k) (cnt + 1) j h e d (if d = 1 then c + 1 else c) hd
        rw [hn, if_neg hbb, hs, elD_comma hd hc.1, i1]
        refine ⟨?_, by omega⟩
        by_cases hd1 : d = 1
        · simp only [if_pos hd1]; congr 1; omega
        · simp only [if_neg hd1]
      · cases e
theorem pB_skip {rec : Nat → Nat → Option (Nat × Nat)} (hr : ∀ x i j h, rec x i = some (j, h) → Skip t i j) {f i j h : Nat} (hb : cX (cC (bt s f)) = true) (e : pB s t most rec f i = some (j, h)) (d : Int) (c : Nat) (hd : 1 < d) : elD t i d c = elD t j (d - 1) c := by
  unfold pB at e
  split at e
  · rename_i hh
    simp only [Option.some.injEq, Prod.mk.injEq] at e
    rw [elD_close (by omega) (by rw [hh.1]; exact hb), e.1]
  · have := (pEl_skip (hr (f + 1)) hb _ _ _ _ _ _ e d c (by omega)).1
    rw [if_neg (by omega)] at this; exact this
theorem letter_not {c : Int} (h : (cL c || cN c || cD c) = true) : cO c = false ∧ cX c = false ∧ c ≠ 44 := by
  have hv : ((97 ≤ c ∧ c ≤ 122) ∨ (65 ≤ c ∧ c ≤ 90)) ∨ (48 ≤ c ∧ c ≤ 57) := by simpa [cL, cN, cD, or_assoc] using h
  refine ⟨?_, ?_, by omega⟩
  · cases e : cO c
    · rfl
    · have := cO_vals e; omega
  · cases e : cX c
    · rfl
    · have := cX_vals e; omega
theorem pF_skip {rec : Nat → Nat → Option (Nat × Nat)} (hr : ∀ x i j h, rec x i = some (j, h) → Skip t i j) {f i j h : Nat} (hf : isF s f = true) (e : pF s t most rec f i = some (j, h)) : Skip t i j := by
  intro d c hd
  have hnz : bt s f ≠ 0 := by intro e; rw [isF, e] at hf; exact absurd hf (by decide)
  unfold pF at e
  split at e
  · cases e
  rename_i hbt
  have hbt' : bt t i = bt s f := by omega
  have hl : i < t.size := bt_lt (by omega)
  split at e
  · rename_i hL
    obtain ⟨n1, n2, n3⟩ := letter_not (c := bt t i) (by rw [hbt', hL]; rfl)
    simp only [Option.some.injEq, Prod.mk.injEq] at e
    rw [elD_plain hl hd n1 n2 n3, e.1]
  rename_i hL
  split at e
  · rename_i hN
    obtain ⟨n1, n2, n3⟩ := letter_not (c := bt t i) (by rw [hbt', hN]; simp)
    unfold pN at e
    split at e
    · cases e
    rename_i h40
    have h40' : bt t (i + 1 : Nat) = 40 := by omega
    cases hq : rec (rl s (bt s f) + 2).toNat (i + 1 + 1) with
    | none => rw [hq] at e; cases e
    | some q =>
      obtain ⟨a, k⟩ := q
      rw [hq] at e
      simp only at e
      split at e
      · rename_i h41
        simp only [Option.some.injEq, Prod.mk.injEq] at e
        rw [elD_plain hl hd n1 n2 n3, elD_open hd (by rw [h40']; decide), hr _ _ _ _ hq (d + 1) c (by omega), elD_close (by omega) (by rw [h41]; decide), e.1]
        congr 1; omega
      · cases e
  · rename_i hN
    have hO : cO (bt s f) = true := by simpa [isF, hL, hN] using hf
    have hx : cX (cC (bt s f)) = true := cX_cC _ (by simpa [cO] using hO)
    rw [elD_open hd (by rw [hbt']; exact hO), pB_skip hr hx e (d + 1) c (by omega)]
    congr 1; omega
theorem pFs_skip {g : Nat → Nat → Option (Nat × Nat)} : ∀ (L : List Nat) (i top j h : Nat), (∀ f ∈ L, ∀ i j h, g f i = some (j, h) → Skip t i j) → pFs g L i top = some (j, h) → Skip t i j
  | [], i, top, j, h, _, e => by
    simp only [pFs, Option.some.injEq, Prod.mk.injEq] at e
    intro d c _; rw [e.1]
  | f :: L, i, top, j, h, hg, e => by
    unfold pFs at e
    cases hq : g f i with
    | none => rw [hq] at e; cases e
    | some q =>
      obtain ⟨a, k⟩ := q
      rw [hq] at e
      exact (hg f (by simp) i a k hq).trans (pFs_skip L a (max top k) j h (fun f' hf' => hg f' (by simp [hf'])) e)
theorem pE_skip (s t : ByteArray) (most : Int) : ∀ n x i j h, pE s t most n x i = some (j, h) → Skip t i j
  | 0, x, i, j, h, e => by cases e
  | n + 1, x, i, j, h, e => by
    unfold pE at e
    split at e
    · rename_i hD
      have hl : i < t.size := bt_lt (by intro e; rw [e] at hD; revert hD; decide)
      obtain ⟨n1, n2, n3⟩ := letter_not (c := bt t i) (by rw [hD]; simp)
      cases hq : ap s (bt t i - 48).toNat x with
      | none => rw [hq] at e; cases e
      | some a =>
        rw [hq] at e
        have h1 := pFs_skip (t := t) (fe s a).1 (i + 1) 0 j h (fun f hf i j h e => pF_skip (fun x i j h e => pE_skip s t most n x i j h e) (fe_mem hf).1 e) e
        intro d c hd
        rw [elD_plain hl hd n1 n2 n3]; exact h1 d c hd
    · cases e
/-- a name's brackets hold one tree -/
theorem els_name {n x i j h : Nat} (e : pE s t most n x (i + 1) = some (j, h)) (h41 : bt t j = 41) : els t i = 1 := by
  have hD : cD (bt t (i + 1 : Nat)) = true := by
    cases n with
    | zero => cases e
    | succ n =>
      unfold pE at e
      split at e
      · assumption
      · cases e
  obtain ⟨_, n2, _⟩ := letter_not (c := bt t (i + 1 : Nat)) (by rw [hD]; simp)
  unfold els
  rw [if_neg (by rw [n2]; decide), pE_skip s t most n x (i + 1) j h e 1 1 (by omega), elD_close (by omega) (by rw [h41]; decide), elD_zero (by omega)]
/-- the number of trees in a bracket, from the place behind what opens it -/
def nB (s t : ByteArray) (rec : Nat → Nat → Option (Nat × Nat)) (f i : Nat) : Nat :=
  if bt t i = cC (bt s f) ∧ (bt s f = 91 ∨ bt s f = 123) then 0 else nEl t (rec (f + 1)) (cC (bt s f)) (t.size - i) i
theorem els_bracket {n f i j h : Nat} (hO : cO (bt s f) = true) (e : pB s t most (pE s t most n) f (i + 1) = some (j, h)) : els t i = nB s t (pE s t most n) f (i + 1) := by
  have hx : cX (cC (bt s f)) = true := cX_cC _ (by simpa [cO] using hO)
  unfold pB at e
  unfold nB els
  split at e
  · rename_i hh
    rw [if_pos hh, if_pos (by rw [hh.1]; exact hx)]
  · rename_i hh
    rw [if_neg hh]
    obtain ⟨e1, e2⟩ := pEl_skip (rec := pE s t most n (f + 1)) (fun i j h e => pE_skip s t most n (f + 1) i j h e) hx _ _ _ _ _ _ e 1 1 (by omega)
    have hD : cD (bt t (i + 1 : Nat)) = true := by
      obtain ⟨m, hm⟩ : ∃ m, t.size - (i + 1) = m + 1 := by
        cases hh : t.size - (i + 1) with
        | zero => rw [hh] at e; cases e
        | succ m => exact ⟨m, rfl⟩
      rw [hm] at e
      unfold pEl at e
      cases n with
      | zero => cases e
      | succ n =>
        cases hq : pE s t most (n + 1) (f + 1) (i + 1) with
        | none => rw [hq] at e; cases e
        | some q =>
          unfold pE at hq
          split at hq
          · assumption
          · cases hq
    obtain ⟨_, n2, _⟩ := letter_not (c := bt t (i + 1 : Nat)) (by rw [hD]; simp)
    rw [if_neg (by rw [n2]; decide), e1, elD_zero (by omega), if_pos rfl]; omega
end
end Go.Proofs.Ytnfaiaoipeholaa
/- A tree of a grammar fits where it is low enough; its longest list; its choices. No Go here. -/
namespace Go.Proofs.Ytnfaiaoipeholaa

theorem pFs_parts {g : Nat → Nat → Option (Nat × Nat)} : ∀ (L : List Nat) (i top j h : Nat), pFs g L i top = some (j, h) → top ≤ h ∧ ∀ f ∈ L, ∃ i' j' h', g f i' = some (j', h') ∧ h' ≤ h
  | [], i, top, j, h, e => by
    simp only [pFs, Option.some.injEq, Prod.mk.injEq] at e
    exact ⟨by omega, fun f hf => by cases hf⟩
  | f :: L, i, top, j, h, e => by
    unfold pFs at e
    cases hq : g f i with
    | none => rw [hq] at e; cases e
    | some q =>
      obtain ⟨a, k⟩ := q
      rw [hq] at e
      obtain ⟨h1, h2⟩ := pFs_parts L a (max top k) j h e
      refine ⟨by omega, fun f' hf' => ?_⟩
      rcases List.mem_cons.1 hf' with rfl | hm
      · exact ⟨i, a, k, hq, by omega⟩
      · exact h2 f' hm
theorem pEl_first {t : ByteArray} {rec : Nat → Option (Nat × Nat)} {b : Int} {many : Bool} {most : Int} : ∀ m i top cnt j h, pEl t rec b many most m i top cnt = some (j, h) → top ≤ h ∧ ∃ j' h', rec i = some (j', h') ∧ h' ≤ h
  | 0, i, top, cnt, j, h, e => by cases e
  | m + 1, i, top, cnt, j, h, e => by
    unfold pEl at e
    cases hq : rec i with
    | none => rw [hq] at e; cases e
    | some q =>
      obtain ⟨a, k⟩ := q
      rw [hq] at e
      simp only at e
      split at e
      · cases e
      split at e
      · simp only [Option.some.injEq, Prod.mk.injEq] at e
        exact ⟨by omega, a, k, rfl, by omega⟩
      split at e
      · have := (pEl_first m (a + 1) (max top k) (cnt + 1) j h e).1
        exact ⟨by omega, a, k, rfl, by omega⟩
      · cases e
section
variable {s t : ByteArray} {most : Int}
/-- what is read of a factor fits, where it is low enough -/
theorem pF_fit {n : Nat} (hE : ∀ x i j h l, pE s t most n x i = some (j, h) → h ≤ l → expFit s (nFit s l) x = true) {f i j h l : Nat} (e : pF s t most (pE s t most n) f i = some (j, h)) (hl : h ≤ l) : facFit s (nFit s l) (expFit s (nFit s l)) f = true := by
  unfold pF at e
  split at e
  · cases e
  split at e
  · rename_i hL
    unfold facFit
    have hv : 97 ≤ bt s f ∧ bt s f ≤ 122 := by simpa [cL] using hL
    rw [if_neg (by simp [cN]; omega), if_neg (by omega)]
  split at e
  · rename_i hN
    unfold facFit
    rw [if_pos hN]
    have hv : 65 ≤ bt s f ∧ bt s f ≤ 90 := by simpa [cN] using hN
    unfold pN at e
    split at e
    · cases e
    cases hq : pE s t most n (rl s (bt s f) + 2).toNat (i + 1 + 1) with
    | none => rw [hq] at e; cases e
    | some q =>
      obtain ⟨a, k⟩ := q
      rw [hq] at e
      simp only at e
      split at e
      · simp only [Option.some.injEq, Prod.mk.injEq] at e
        obtain ⟨l', rfl⟩ : ∃ l', l = l' + 1 := ⟨l - 1, by omega⟩
        show expFit s (nFit s l') (rl s (65 + (bt s f - 65).toNat : Nat) + 2).toNat = true
        rw [show ((65 + (bt s f - 65).toNat : Nat) : Int) = bt s f by omega]
        exact hE _ _ _ _ l' hq (by omega)
      · cases e
  · rename_i hN
    unfold facFit
    rw [if_neg hN]
    split
    · rename_i hk
      unfold pB at e
      rw [if_neg (by omega)] at e
      obtain ⟨_, j', h', h1, h2⟩ := pEl_first _ _ _ _ _ _ e
      exact hE _ _ _ _ l h1 (by omega)
    · rfl
theorem pE_fit : ∀ n x i j h l, pE s t most n x i = some (j, h) → h ≤ l → expFit s (nFit s l) x = true
  | 0, x, i, j, h, l, e, _ => by cases e
  | n + 1, x, i, j, h, l, e, hl => by
    unfold pE at e
    split at e
    · cases hq : ap s (bt t i - 48).toNat x with
      | none => rw [hq] at e; cases e
      | some a =>
        rw [hq] at e
        obtain ⟨_, h2⟩ := pFs_parts _ _ _ _ _ e
        rw [expFit_step, List.any_eq_true]
        refine ⟨a, ?_, ?_⟩
        · rw [sts_ap] at hq; exact List.mem_of_getElem? hq
        · unfold altFit
          rw [List.all_eq_true]
          intro f hf
          obtain ⟨i', j', h', g1, g2⟩ := h2 f hf
          exact pF_fit (fun x i j h l => pE_fit n x i j h l) g1 (by omega)
    · cases e
/-- the parts of what is read of an expression -/
theorem pE_parts {n x i j h : Nat} (e : pE s t most (n + 1) x i = some (j, h)) : ∃ k a : Nat, bt t i = 48 + (k : Int) ∧ k ≤ 9 ∧ ap s k x = some a ∧ pFs (pF s t most (pE s t most n)) (fe s a).1 (i + 1) 0 = some (j, h) := by
  unfold pE at e
  split at e
  · rename_i hD
    have hv : 48 ≤ bt t i ∧ bt t i ≤ 57 := by simpa [cD] using hD
    cases hq : ap s (bt t i - 48).toNat x with
    | none => rw [hq] at e; cases e
    | some a =>
      rw [hq] at e
      exact ⟨(bt t i - 48).toNat, a, by omega, by omega, hq, e⟩
  · cases e
theorem pE_mem {n x i j h l k a : Nat} (hk : ap s k x = some a) (e : pFs (pF s t most (pE s t most n)) (fe s a).1 (i + 1) 0 = some (j, h)) (hl : h ≤ l) : k < (sts s x).length ∧ altFit s (nFit s l) (expFit s (nFit s l)) (fe s a).1 = true := by
  have hk' := hk
  rw [sts_ap] at hk'
  refine ⟨(List.getElem?_eq_some_iff.1 hk').1, ?_⟩
  obtain ⟨_, h2⟩ := pFs_parts _ _ _ _ _ e
  unfold altFit
  rw [List.all_eq_true]
  intro f hf
  obtain ⟨i', j', h', g1, g2⟩ := h2 f hf
  exact pF_fit (fun x i j h l => pE_fit n x i j h l) g1 (by omega)

/-- with a bound on lists -/
def Good (t : ByteArray) (most : Int) (i j : Nat) : Prop := ∀ p, i ≤ p → p < j → cO (bt t p) = true → (els t p : Int) ≤ most
def Bad (t : ByteArray) (most : Int) (i j : Nat) : Prop := ∃ p, i ≤ p ∧ p < j ∧ cO (bt t p) = true ∧ most < (els t p : Int)
def Either (t : ByteArray) (most : Int) (i : Nat) (r : Option (Nat × Nat)) (j h : Nat) : Prop := (r = some (j, h) ∧ Good t most i j) ∨ (r = none ∧ Bad t most i j)
theorem Bad.mono {t : ByteArray} {most : Int} {i j i' j' : Nat} (h : Bad t most i j) (h1 : i' ≤ i) (h2 : j ≤ j') : Bad t most i' j' := by
  obtain ⟨p, a, b, c, d⟩ := h; exact ⟨p, by omega, by omega, c, d⟩
theorem Good.join {t : ByteArray} {most : Int} {i j k : Nat} (h : Good t most i j) (g : Good t most j k) : Good t most i k := fun p h1 h2 h3 => by
  by_cases e : p < j
  · exact h p h1 e h3
  · exact g p (by omega) h2 h3
theorem Good.plain {t : ByteArray} {most : Int} {i : Nat} (h : cO (bt t i) = false) : Good t most i (i + 1) := fun p h1 h2 h3 => by
  have : p = i := by omega
  subst this; rw [h] at h3; cases h3
theorem Good.one {t : ByteArray} {most : Int} {i : Nat} (h : (els t i : Int) ≤ most) : Good t most i (i + 1) := fun p h1 h2 _ => by
  have : p = i := by omega
  subst this; exact h
theorem pFs_either {g g' : Nat → Nat → Option (Nat × Nat)} : ∀ (L : List Nat) (i top j h : Nat), (∀ f ∈ L, ∀ i j h, g f i = some (j, h) → i < j ∧ Either t most i (g' f i) j h) → pFs g L i top = some (j, h) → i ≤ j ∧ Either t most i (pFs g' L i top) j h
  | [], i, top, j, h, _, e => by
    have e' := e
    simp only [pFs, Option.some.injEq, Prod.mk.injEq] at e'
    exact ⟨by omega, .inl ⟨e, fun p h1 h2 _ => by omega⟩⟩
  | f :: L, i, top, j, h, hg, e => by
    unfold pFs at e ⊢
    cases hq : g f i with
    | none => rw [hq] at e; cases e
    | some q =>
      obtain ⟨a, k⟩ := q
      rw [hq] at e
      obtain ⟨hlt, h1⟩ := hg f (by simp) i a k hq
      obtain ⟨hle, h2⟩ := pFs_either L a (max top k) j h (fun f' hf' => hg f' (by simp [hf'])) e
      refine ⟨by omega, ?_⟩
      rcases h1 with ⟨e1, g1⟩ | ⟨e1, g1⟩
      · rw [e1]
        rcases h2 with ⟨e2, g2⟩ | ⟨e2, g2⟩
        · exact .inl ⟨e2, g1.join g2⟩
        · exact .inr ⟨e2, g2.mono (by omega) (Nat.le_refl _)⟩
      · rw [e1]
        exact .inr ⟨rfl, g1.mono (Nat.le_refl _) hle⟩
theorem pEl_either {rec rec' : Nat → Option (Nat × Nat)} {b : Int} {many : Bool} (hb : cO b = false) (hm : 0 < most) (hr : ∀ i j h, rec i = some (j, h) → i < j ∧ Either t most i (rec' i) j h) :
    ∀ m i top cnt j h, pEl t rec b many 0 m i top cnt = some (j, h) → i < j ∧ ((pEl t rec' b many most m i top cnt = some (j, h) ∧ cnt + (nEl t rec b m i : Int) ≤ most ∧ Good t most i j) ∨ (pEl t rec' b many most m i top cnt = none ∧ (most < cnt + (nEl t rec b m i : Int) ∨ Bad t most i j)))
  | 0, i, top, cnt, j, h, e => by cases e
  | m + 1, i, top, cnt, j, h, e => by
    unfold pEl at e ⊢
    cases hq : rec i with
    | none => rw [hq] at e; cases e
    | some q =>
      obtain ⟨a, k⟩ := q
      rw [hq] at e
      simp only at e
      have hn : nEl t rec b (m + 1) i = if bt t a = b then 1 else nEl t rec b m (a + 1) + 1 := by simp only [nEl, hq]
      obtain ⟨hlt, h1⟩ := hr i a k hq
      rw [if_neg (by omega)] at e
      rw [hn]
      split at e
      · rename_i hbb
        simp only [Option.some.injEq, Prod.mk.injEq] at e
        obtain ⟨e1, e2⟩ := e
        refine ⟨by omega, ?_⟩
        rw [if_pos hbb]
        rcases h1 with ⟨r1, g1⟩ | ⟨r1, g1⟩
        · rw [r1]
          simp only
          by_cases hc : most < cnt + 1
          · rw [if_pos ⟨hm, hc⟩]
            exact .inr ⟨rfl, .inl (by omega)⟩
          · rw [if_neg (fun hh => hc hh.2), if_pos hbb]
            refine .inl ⟨by rw [e1, e2], by omega, ?_⟩
            rw [← e1]; exact g1.join (Good.plain (by rw [hbb]; exact hb))
        · rw [r1]
          exact .inr ⟨rfl, .inr (g1.mono (Nat.le_refl _) (by omega))⟩
      rename_i hbb
      split at e
      · rename_i hcm
        obtain ⟨hlt2, h2⟩ := pEl_either hb hm hr m (a + 1) (max top k) (cnt + 1) j h e
        refine ⟨by omega, ?_⟩
        rw [if_neg hbb]
        have h44 : cO (bt t a) = false := by rw [hcm.1]; decide
        rcases h1 with ⟨r1, g1⟩ | ⟨r1, g1⟩
        · rw [r1]
          simp only
          by_cases hc : most < cnt + 1
          · rw [if_pos ⟨hm, hc⟩]
            exact .inr ⟨rfl, .inl (by omega)⟩
          · rw [if_neg (fun hh => hc hh.2), if_neg hbb, if_pos hcm]
            rcases h2 with ⟨r2, c2, g2⟩ | ⟨r2, c2⟩
            · exact .inl ⟨r2, by omega, (g1.join (Good.plain h44)).join g2⟩
            · rcases c2 with c2 | c2
              · exact .inr ⟨r2, .inl (by omega)⟩
              · exact .inr ⟨r2, .inr (c2.mono (by omega) (Nat.le_refl _))⟩
        · rw [r1]
          exact .inr ⟨rfl, .inr (g1.mono (Nat.le_refl _) (by omega))⟩
      · cases e
theorem pF_either {n : Nat} (hm : 0 < most) (hr : ∀ x i j h, pE s t 0 n x i = some (j, h) → Either t most i (pE s t most n x i) j h) {f i j h : Nat} (hf : isF s f = true) (e : pF s t 0 (pE s t 0 n) f i = some (j, h)) : i < j ∧ Either t most i (pF s t most (pE s t most n) f i) j h := by
  have hlt := (pF_fwd (most := 0) (fun x i => pE_fwd s t 0 n x i) hf j h e).1
  refine ⟨hlt, ?_⟩
  have e0 := e
  unfold pF at e ⊢
  split at e
  · cases e
  rename_i hbt
  have hbt' : bt t i = bt s f := by omega
  rw [if_neg hbt]
  split at e
  · rename_i hL
    rw [if_pos hL]
    obtain ⟨n1, _, _⟩ := letter_not (c := bt t i) (by rw [hbt', hL]; rfl)
    refine .inl ⟨e, ?_⟩
    simp only [Option.some.injEq, Prod.mk.injEq] at e
    rw [← e.1]; exact Good.plain n1
  rename_i hL
  rw [if_neg hL]
  split at e
  · rename_i hN
    rw [if_pos hN]
    obtain ⟨n1, _, _⟩ := letter_not (c := bt t i) (by rw [hbt', hN]; simp)
    unfold pN at e ⊢
    split at e
    · cases e
    rename_i h40
    rw [if_neg h40]
    cases hq : pE s t 0 n (rl s (bt s f) + 2).toNat (i + 1 + 1) with
    | none => rw [hq] at e; cases e
    | some q =>
      obtain ⟨a, k⟩ := q
      rw [hq] at e
      simp only at e
      split at e
      · rename_i h41
        have hone := els_name (i := i + 1) hq h41
        have hia := (pE_fwd s t 0 n _ _ a k hq).1
        simp only [Option.some.injEq, Prod.mk.injEq] at e
        have h41' : cO (bt t a) = false := by rw [h41]; decide
        rcases hr _ _ _ _ hq with ⟨r1, g1⟩ | ⟨r1, g1⟩
        · rw [r1]
          simp only
          rw [if_pos h41]
          refine .inl ⟨by rw [e.1, e.2], ?_⟩
          rw [← e.1]
          exact (((Good.plain n1).join (Good.one (by rw [hone]; omega))).join g1).join (Good.plain h41')
        · rw [r1]
          exact .inr ⟨rfl, g1.mono (by omega) (by omega)⟩
      · cases e
  · rename_i hN
    rw [if_neg hN]
    have hO : cO (bt s f) = true := by simpa [isF, hL, hN] using hf
    have hne := els_bracket (s := s) (t := t) (most := 0) (n := n) (i := i) hO e
    have hcl : cO (cC (bt s f)) = false := by
      have hx : cX (cC (bt s f)) = true := cX_cC _ (by simpa [cO] using hO)
      exact (close_not hx).2.2.1
    unfold nB at hne
    unfold pB at e ⊢
    split at e
    · rename_i hh
      rw [if_pos hh]
      rw [if_pos hh] at hne
      refine .inl ⟨e, ?_⟩
      simp only [Option.some.injEq, Prod.mk.injEq] at e
      rw [← e.1]
      exact (Good.one (by rw [hne]; omega)).join (Good.plain (by rw [hh.1]; exact hcl))
    · rename_i hh
      rw [if_neg hh]
      rw [if_neg hh] at hne
      obtain ⟨hij, h2⟩ := pEl_either (rec := pE s t 0 n (f + 1)) (rec' := pE s t most n (f + 1)) hcl hm (fun i j h e => ⟨(pE_fwd s t 0 n _ _ j h e).1, hr _ _ _ _ e⟩) _ _ _ _ _ _ e
      rcases h2 with ⟨r2, c2, g2⟩ | ⟨r2, c2⟩
      · exact .inl ⟨r2, (Good.one (by rw [hne]; omega)).join g2⟩
      · refine .inr ⟨r2, ?_⟩
        rcases c2 with c2 | c2
        · exact ⟨i, Nat.le_refl _, by omega, by rw [hbt']; exact hO, by rw [hne]; omega⟩
        · exact c2.mono (by omega) (Nat.le_refl _)
theorem pE_either (hm : 0 < most) : ∀ n x i j h, pE s t 0 n x i = some (j, h) → Either t most i (pE s t most n x i) j h
  | 0, x, i, j, h, e => by cases e
  | n + 1, x, i, j, h, e => by
    obtain ⟨k, a, hk, hk9, ha, hp⟩ := pE_parts e
    obtain ⟨n1, _, _⟩ := letter_not (c := bt t i) (by simp [cL, cN, cD, hk]; omega)
    obtain ⟨hij, h2⟩ := pFs_either (most := most) (g' := pF s t most (pE s t most n)) (fe s a).1 (i + 1) 0 j h (fun f hf i j h e => pF_either hm (fun x i j h e => pE_either hm n x i j h e) (fe_mem hf).1 e) hp
    unfold pE
    rw [if_pos (by simp [cD, hk]; omega), show (bt t i - 48).toNat = k by omega, ha]
    rcases h2 with ⟨r2, g2⟩ | ⟨r2, g2⟩
    · exact .inl ⟨r2, (Good.plain n1).join g2⟩
    · exact .inr ⟨r2, g2.mono (by omega) (Nat.le_refl _)⟩
/-- the whole text -/
theorem whole_most (hm : 0 < most) {h : Nat} (hf : isF s 0 = true) (e : whole s t 0 = some h) : (whole s t most = some h ∧ Good t most 0 t.size) ∨ (whole s t most = none ∧ Bad t most 0 t.size) := by
  unfold whole at e ⊢
  split at e
  · cases e
  rename_i hsz
  rw [if_neg hsz]
  cases hq : pF s t 0 (pE s t 0 (t.size + 1)) 0 0 with
  | none => rw [hq] at e; cases e
  | some q =>
    obtain ⟨j, k⟩ := q
    rw [hq] at e
    simp only at e
    split at e
    · rename_i hj
      obtain ⟨_, h2⟩ := pF_either (most := most) hm (fun x i j h e => pE_either hm _ x i j h e) hf hq
      rcases h2 with ⟨r2, g2⟩ | ⟨r2, g2⟩
      · rw [r2]
        simp only
        rw [if_pos hj]
        exact .inl ⟨e, by rw [← hj]; exact g2⟩
      · rw [r2]
        exact .inr ⟨rfl, by rw [← hj]; exact g2⟩
    · cases e
end
end Go.Proofs.Ytnfaiaoipeholaa
/- The choices that make a tree. No Go here. -/
namespace Go.Proofs.Ytnfaiaoipeholaa
/-- the longest list -/
def mxF (t : ByteArray) : Nat → Nat → Nat → Nat
  | 0, _, r => r
  | n + 1, i, r => mxF t n (i + 1) (if cO (bt t i) = true then max r (els t i) else r)
def mx (t : ByteArray) : Nat := mxF t t.size 0 0
theorem mxF_le (t : ByteArray) (most : Int) : ∀ n i r, ((mxF t n i r : Nat) : Int) ≤ most ↔ (r : Int) ≤ most ∧ Good t most i (i + n)
  | 0, i, r => by
    simp only [mxF]
    exact ⟨fun h => ⟨h, fun p h1 h2 _ => by omega⟩, fun h => h.1⟩
  | n + 1, i, r => by
    unfold mxF
    rw [mxF_le t most n]
    constructor
    · rintro ⟨h1, h2⟩
      split at h1
      · rename_i hc
        refine ⟨by omega, ?_⟩
        rw [show i + (n + 1) = i + 1 + n by omega]
        exact (Good.one (by omega)).join h2
      · rename_i hc
        refine ⟨h1, ?_⟩
        rw [show i + (n + 1) = i + 1 + n by omega]
        exact (Good.plain (by simpa using hc)).join h2
    · rintro ⟨h1, h2⟩
      refine ⟨?_, fun p a b c => h2 p (by omega) (by omega) c⟩
      split
      · rename_i hc
        have := h2 i (Nat.le_refl _) (by omega) hc
        omega
      · exact h1
theorem mx_le (t : ByteArray) {most : Int} (hm : 0 < most) : ((mx t : Nat) : Int) ≤ most ↔ Good t most 0 t.size := by
  unfold mx
  rw [mxF_le, Nat.zero_add]
  exact ⟨fun h => h.2, fun h => ⟨by omega, h⟩⟩

/-- factors -/
def dFs (g : Nat → Nat → Option (Nat × Nat)) (dg : Nat → Nat → List Int) : List Nat → Nat → List Int
  | [], _ => []
  | f :: L, i => dg f i ++ (match g f i with
    | none => []
    | some (j, _) => dFs g dg L j)
/-- elements -/
def dEl (t : ByteArray) (rec : Nat → Option (Nat × Nat)) (dr : Nat → List Int) (b : Int) : Nat → Nat → List Int
  | 0, _ => []
  | m + 1, i => dr i ++ (match rec i with
    | none => []
    | some (j, _) => if bt t j = b then [] else dEl t rec dr b m (j + 1))
/-- the digit of a way: none, where there is but one -/
def dgt (n w : Nat) : List Int := if 1 < n then [48 + (w : Int)] else []
theorem dgt_len (n w : Nat) : (dgt n w).length ≤ 1 := by unfold dgt; split <;> simp
/-- behind a bracket that opens -/
def dB (s t : ByteArray) (m : Nat) (rec : Nat → Nat → Option (Nat × Nat)) (dr : Nat → Nat → Nat → List Int) (l f i : Nat) : List Int :=
  dgt (cnt s m l f) (nB s t rec f i - few (bt s f)) ++ (if bt t i = cC (bt s f) ∧ (bt s f = 91 ∨ bt s f = 123) then [] else dEl t (rec (f + 1)) (dr l (f + 1)) (cC (bt s f)) (t.size - i) i)
/-- a factor -/
def dF (s t : ByteArray) (m : Nat) (rec : Nat → Nat → Option (Nat × Nat)) (dr : Nat → Nat → Nat → List Int) (l f i : Nat) : List Int :=
  if cN (bt s f) = true then dr (l - 1) (rl s (bt s f) + 2).toNat (i + 2) else if cO (bt s f) = true then dB s t m rec dr l f (i + 1) else []
/-- the number of the way of an alternative -/
def wayIx (s : ByteArray) (l x k : Nat) : Nat := ((List.range k).filter fun j => altFit s (nFit s l) (expFit s (nFit s l)) (fe s ((sts s x).getD j 0)).1).length
theorem wayIx_le (s : ByteArray) (l x k : Nat) : wayIx s l x k ≤ k := by
  have := List.length_filter_le (fun j => altFit s (nFit s l) (expFit s (nFit s l)) (fe s ((sts s x).getD j 0)).1) (List.range k); simpa [wayIx] using this
/-- an expression -/
def dE (s t : ByteArray) (m : Nat) : Nat → Nat → Nat → Nat → List Int
  | 0, _, _, _ => []
  | n + 1, l, x, i => dgt (fitL s l x).length (wayIx s l x (bt t i - 48).toNat) ++ (match ap s (bt t i - 48).toNat x with
    | none => []
    | some a => dFs (pF s t 0 (pE s t 0 n)) (dF s t m (pE s t 0 n) (dE s t m n) l) (fe s a).1 (i + 1))
/-- the choices of the whole text -/
def told (s t : ByteArray) (h m : Nat) : List Int := dF s t m (pE s t 0 (t.size + 1)) (dE s t m (t.size + 1)) h 0 0
/-- P7 -/
def rcl (s t : ByteArray) (h m : Int) : ByteArray × Int :=
  if (hgt s t).2 ≠ 0 then (⟨#[]⟩, (hgt s t).2)
  else if ¬ (1 ≤ h ∧ h ≤ 9 ∧ 1 ≤ m ∧ m ≤ 5) then (⟨#[]⟩, 9)
  else if h < (hgt s t).1 ∨ m < (mx t : Int) then (⟨#[]⟩, 10)
  else (strOfNums (told s t h.toNat m.toNat), 0)
theorem pEl_parts {t : ByteArray} {rec : Nat → Option (Nat × Nat)} {b : Int} {many : Bool} {m i top j h : Nat} {cn : Int} (e : pEl t rec b many 0 m i top cn = some (j, h)) (dr : Nat → List Int) :
    ∃ m' a k, m = m' + 1 ∧ rec i = some (a, k) ∧ k ≤ h ∧ ((bt t a = b ∧ j = a + 1 ∧ nEl t rec b m i = 1 ∧ dEl t rec dr b m i = dr i) ∨
      (bt t a ≠ b ∧ bt t a = 44 ∧ pEl t rec b many 0 m' (a + 1) (max top k) (cn + 1) = some (j, h) ∧ nEl t rec b m i = nEl t rec b m' (a + 1) + 1 ∧ dEl t rec dr b m i = dr i ++ dEl t rec dr b m' (a + 1))) := by
  have hfi := pEl_first _ _ _ _ _ _ e
  cases m with
  | zero => cases e
  | succ m =>
    unfold pEl at e
    cases hq : rec i with
    | none => rw [hq] at e; cases e
    | some q =>
      obtain ⟨a, k⟩ := q
      obtain ⟨_, j', h', g1, g2⟩ := hfi
      rw [hq] at g1 e
      simp only [Option.some.injEq, Prod.mk.injEq] at g1
      simp only at e
      rw [if_neg (by omega)] at e
      refine ⟨m, a, k, rfl, rfl, by omega, ?_⟩
      split at e
      · rename_i hb
        simp only [Option.some.injEq, Prod.mk.injEq] at e
        exact .inl ⟨hb, e.1.symm, by simp only [nEl, hq]; rw [if_pos hb], by simp only [dEl, hq]; rw [if_pos hb]; simp⟩
      rename_i hb
      split at e
      · rename_i hc
        exact .inr ⟨hb, hc.1, e, by simp only [nEl, hq]; rw [if_neg hb], by simp only [dEl, hq]; rw [if_neg hb]⟩
      · cases e
section
variable {s t : ByteArray}
/-- the elements that are left -/
def Rest (t : ByteArray) (rec : Nat → Option (Nat × Nat)) (dr : Nat → List Int) (b : Int) (j h k C q : Nat) (D Z : List Int) : Prop :=
  (k = C ∧ q + 1 = j ∧ D = Z) ∨ (k < C ∧ ∃ (mm top : Nat) (cn : Int) (many : Bool), pEl t rec b many 0 mm (if k = 0 then q else q + 1) top cn = some (j, h) ∧ nEl t rec b mm (if k = 0 then q else q + 1) + k = C ∧ Z = D ++ dEl t rec dr b mm (if k = 0 then q else q + 1))
theorem Rest.start {rec : Nat → Nat → Option (Nat × Nat)} {dr : Nat → Nat → Nat → List Int} {l f i j h : Nat} {D : List Int} (hr : ∀ i j h, rec (f + 1) i = some (j, h) → Skip t i j) (hO : cO (bt s f) = true) (e : pB s t 0 rec f i = some (j, h)) (m : Nat) :
    Rest t (rec (f + 1)) (dr l (f + 1)) (cC (bt s f)) j h 0 (nB s t rec f i) i (D ++ dgt (cnt s m l f) (nB s t rec f i - few (bt s f))) (D ++ dB s t m rec dr l f i) := by
  have hx : cX (cC (bt s f)) = true := cX_cC _ (by simpa [cO] using hO)
  unfold pB at e
  unfold nB dB nB
  split at e
  · rename_i hh
    simp only [if_pos hh]
    simp only [Option.some.injEq, Prod.mk.injEq] at e
    exact .inl ⟨rfl, e.1, by simp⟩
  · rename_i hh
    simp only [if_neg hh]
    have h1 := (pEl_skip hr hx _ _ _ _ _ _ e 1 0 (by omega)).2
    refine .inr ⟨h1, t.size - i, 0, 0, _, by rw [if_pos rfl]; exact e, by rw [if_pos rfl]; rfl, by rw [if_pos rfl]; simp⟩
/-- one more -/
theorem Rest.more {rec : Nat → Option (Nat × Nat)} {dr : Nat → List Int} {cl : Int} {j h k C q : Nat} {D Z : List Int} (hR : Rest t rec dr cl j h k C q D Z) (hk : k < C) :
    ∃ a k', rec (if k = 0 then q else q + 1) = some (a, k') ∧ k' ≤ h ∧ Rest t rec dr cl j h (k + 1) C a (D ++ dr (if k = 0 then q else q + 1)) Z := by
  rcases hR with ⟨e, _⟩ | ⟨_, mm, top, cn, many, e1, e2, e3⟩
  · omega
  · obtain ⟨m', a, k', hm, hq, hkh, hc⟩ := pEl_parts e1 dr
    refine ⟨a, k', hq, hkh, ?_⟩
    rcases hc with ⟨_, c1, c2, c3⟩ | ⟨_, c1, c2, c3, c4⟩
    · exact .inl ⟨by omega, by omega, by rw [e3, c3]⟩
    · have h1 : 1 ≤ nEl t rec cl m' (a + 1) := by
        obtain ⟨m2, a2, k2, _, _, _, hc2⟩ := pEl_parts c2 dr
        rcases hc2 with ⟨_, _, d2, _⟩ | ⟨_, _, _, d2, _⟩ <;> omega
      refine .inr ⟨by omega, m', _, _, many, by rw [if_neg (by omega)]; exact c2, by rw [if_neg (by omega)]; omega, by rw [if_neg (show ¬ (k + 1 = 0) by omega), e3, c4]; simp⟩
end
end Go.Proofs.Ytnfaiaoipeholaa
/- Where a tree's brackets close; the reference's count of elements. No Go here. -/
namespace Go.Proofs.Ytnfaiaoipeholaa
/-- a scan that only follows the depth, as long as it is not 0 -/
def Scans (t : ByteArray) (G : Nat → Int → Nat) : Prop := ∀ (i : Nat) (d : Int), i < t.size → 0 < d → 0 < dpt (bt t i) d → G i d = G (i + 1) (dpt (bt t i) d)
section
variable {s t : ByteArray} {most : Int} {G : Nat → Int → Nat}
theorem Scans.plain (hG : Scans t G) {i : Nat} {d : Int} (h : i < t.size) (hd : 0 < d) (h1 : cO (bt t i) = false) (h2 : cX (bt t i) = false) : G i d = G (i + 1) d := by
  have e : dpt (bt t i) d = d := by simp [dpt, h1, h2]
  rw [hG i d h hd (by omega), e]
theorem Scans.opens (hG : Scans t G) {i : Nat} {d : Int} (hd : 0 < d) (h1 : cO (bt t i) = true) : G i d = G (i + 1) (d + 1) := by
  have hl : i < t.size := bt_lt (by intro e; rw [e] at h1; revert h1; decide)
  have e : dpt (bt t i) d = d + 1 := by simp [dpt, h1]
  rw [hG i d hl hd (by omega), e]
theorem Scans.closes (hG : Scans t G) {i : Nat} {d : Int} (hd : 1 < d) (h1 : cX (bt t i) = true) : G i d = G (i + 1) (d - 1) := by
  have hl : i < t.size := bt_lt (by intro e; rw [e] at h1; revert h1; decide)
  obtain ⟨_, _, h2, _⟩ := close_not h1
  have e : dpt (bt t i) d = d - 1 := by simp [dpt, h1, h2]
  rw [hG i d hl (by omega) (by omega), e]
def GSkip (G : Nat → Int → Nat) (i j : Nat) : Prop := ∀ d : Int, 0 < d → G i d = G j d
theorem pEl_gskip (hG : Scans t G) {rec : Nat → Option (Nat × Nat)} {b : Int} {many : Bool} (hr : ∀ i j h, rec i = some (j, h) → GSkip G i j) :
    ∀ m i top cnt j h, pEl t rec b many most m i top cnt = some (j, h) → ∃ a, j = a + 1 ∧ bt t a = b ∧ GSkip G i a
  | 0, i, top, cnt, j, h, e => by cases e
  | m + 1, i, top, cnt, j, h, e => by
    unfold pEl at e
    cases hq : rec i with
    | none => rw [hq] at e; cases e
    | some q =>
      obtain ⟨a, k⟩ := q
      rw [hq] at e
      simp only at e
      have hs := hr i a k hq
      split at e
      · cases e
      split at e
      · rename_i hbb
        simp only [Option.some.injEq, Prod.mk.injEq] at e
        exact ⟨a, e.1.symm, hbb, hs⟩
      split at e
      · rename_i hc
        obtain ⟨a', e1, e2, e3⟩ := pEl_gskip hG hr m (a + 1) (max top k) (cnt + 1) j h e
        have hl : a < t.size := bt_lt (by omega)
        refine ⟨a', e1, e2, fun d hd => ?_⟩
        rw [hs d hd, hG.plain hl hd (by rw [hc.1]; decide) (by rw [hc.1]; decide)]
        exact e3 d hd
      · cases e
theorem pB_gskip (hG : Scans t G) {rec : Nat → Nat → Option (Nat × Nat)} (hr : ∀ x i j h, rec x i = some (j, h) → GSkip G i j) {f i j h : Nat} (e : pB s t most rec f i = some (j, h)) : ∃ a, j = a + 1 ∧ bt t a = cC (bt s f) ∧ GSkip G i a := by
  unfold pB at e
  split at e
  · rename_i hh
    simp only [Option.some.injEq, Prod.mk.injEq] at e
    exact ⟨i, e.1.symm, hh.1, fun _ _ => rfl⟩
  · exact pEl_gskip hG (hr (f + 1)) _ _ _ _ _ _ e
theorem pF_gskip (hG : Scans t G) {rec : Nat → Nat → Option (Nat × Nat)} (hr : ∀ x i j h, rec x i = some (j, h) → GSkip G i j) {f i j h : Nat} (hf : isF s f = true) (e : pF s t most rec f i = some (j, h)) : GSkip G i j := by
  intro d hd
  have hnz : bt s f ≠ 0 := by intro e; rw [isF, e] at hf; exact absurd hf (by decide)
  unfold pF at e
  split at e
  · cases e
  rename_i hbt
  have hbt' : bt t i = bt s f := by omega
  have hl : i < t.size := bt_lt (by omega)
  split at e
  · rename_i hL
    obtain ⟨n1, n2, _⟩ := letter_not (c := bt t i) (by rw [hbt', hL]; rfl)
    simp only [Option.some.injEq, Prod.mk.injEq] at e
    rw [hG.plain hl hd n1 n2, e.1]
  rename_i hL
  split at e
  · rename_i hN
    obtain ⟨n1, n2, _⟩ := letter_not (c := bt t i) (by rw [hbt', hN]; simp)
    unfold pN at e
    split at e
    · cases e
    rename_i h40
    have h40' : bt t (i + 1 : Nat) = 40 := by omega
    cases hq : rec (rl s (bt s f) + 2).toNat (i + 1 + 1) with
    | none => rw [hq] at e; cases e
    | some q =>
      obtain ⟨a, k⟩ := q
      rw [hq] at e
      simp only at e
      split at e
      · rename_i h41
        simp only [Option.some.injEq, Prod.mk.injEq] at e
        rw [hG.plain hl hd n1 n2, hG.opens hd (by rw [h40']; decide), hr _ _ _ _ hq (d + 1) (by omega), hG.closes (by omega) (by rw [h41]; decide), e.1]
        congr 1; omega
      · cases e
  · rename_i hN
    have hO : cO (bt s f) = true := by simpa [isF, hL, hN] using hf
    have hx : cX (cC (bt s f)) = true := cX_cC _ (by simpa [cO] using hO)
    obtain ⟨a, e1, e2, e3⟩ := pB_gskip hG hr e
    rw [hG.opens hd (by rw [hbt']; exact hO), e3 (d + 1) (by omega), hG.closes (by omega) (by rw [e2]; exact hx), e1]
    congr 1; omega
theorem pFs_gskip {g : Nat → Nat → Option (Nat × Nat)} : ∀ (L : List Nat) (i top j h : Nat), (∀ f ∈ L, ∀ i j h, g f i = some (j, h) → GSkip G i j) → pFs g L i top = some (j, h) → GSkip G i j
  | [], i, top, j, h, _, e => by
    simp only [pFs, Option.some.injEq, Prod.mk.injEq] at e
    intro d _; rw [e.1]
  | f :: L, i, top, j, h, hg, e => by
    unfold pFs at e
    cases hq : g f i with
    | none => rw [hq] at e; cases e
    | some q =>
      obtain ⟨a, k⟩ := q
      rw [hq] at e
      intro d hd
      rw [hg f (by simp) i a k hq d hd]
      exact pFs_gskip L a (max top k) j h (fun f' hf' => hg f' (by simp [hf'])) e d hd
theorem pE_gskip (hG : Scans t G) : ∀ n x i j h, pE s t most n x i = some (j, h) → GSkip G i j
  | 0, x, i, j, h, e => by cases e
  | n + 1, x, i, j, h, e => by
    obtain ⟨k, a, hk, hk9, ha, hp⟩ := pE_parts e
    obtain ⟨n1, n2, _⟩ := letter_not (c := bt t i) (by simp [cL, cN, cD, hk]; omega)
    have hl : i < t.size := bt_lt (by omega)
    have h1 := pFs_gskip (G := G) (fe s a).1 (i + 1) 0 j h (fun f hf i j h e => pF_gskip hG (fun x i j h e => pE_gskip hG n x i j h e) (fe_mem hf).1 e) hp
    intro d hd
    rw [hG.plain hl hd n1 n2]; exact h1 d hd

/-- where a bracket closes -/
def mtF (t : ByteArray) : Nat → Nat → Int → Nat
  | 0, _, _ => t.size
  | n + 1, j, d => if cO (bt t j) = true then mtF t n (j + 1) (d + 1) else if cX (bt t j) = true then (if d - 1 = 0 then j else mtF t n (j + 1) (d - 1)) else mtF t n (j + 1) d
def mtD (t : ByteArray) (j : Nat) (d : Int) : Nat := mtF t (t.size - j) j d
def mt (t : ByteArray) (i : Nat) : Nat := mtD t i 0
theorem mtD_step {t : ByteArray} {j : Nat} {d : Int} (h : j < t.size) : mtD t j d = if cO (bt t j) = true then mtD t (j + 1) (d + 1) else if cX (bt t j) = true then (if d - 1 = 0 then j else mtD t (j + 1) (d - 1)) else mtD t (j + 1) d := by
  unfold mtD
  rw [show t.size - j = (t.size - (j + 1)) + 1 by omega]
  rfl
theorem mtF_bd (t : ByteArray) : ∀ n j d, n = t.size - j → j ≤ t.size → j ≤ mtF t n j d ∧ mtF t n j d ≤ t.size
  | 0, j, d, hn, hj => by unfold mtF; omega
  | n + 1, j, d, hn, hj => by
    unfold mtF
    have h1 := mtF_bd t n (j + 1) (d + 1) (by omega) (by omega)
    have h2 := mtF_bd t n (j + 1) (d - 1) (by omega) (by omega)
    have h3 := mtF_bd t n (j + 1) d (by omega) (by omega)
    split
    · omega
    split
    · split <;> omega
    · omega
theorem mt_bd {t : ByteArray} {j : Nat} (h : j ≤ t.size) : j ≤ mt t j ∧ mt t j ≤ t.size := mtF_bd t _ j 0 rfl h
theorem mt_scans (t : ByteArray) : Scans t (mtD t) := by
  intro i d hi hd hp
  rw [mtD_step hi]
  unfold dpt at hp ⊢
  split
  · rfl
  · rename_i h1
    split
    · rename_i h2
      simp only [h1, h2] at hp
      rw [if_neg (by simp at hp; omega)]
    · rfl
theorem mt_close {a : Nat} (h : cX (bt t a) = true) : mtD t a 1 = a := by
  have hl : a < t.size := bt_lt (by intro e; rw [e] at h; revert h; decide)
  obtain ⟨_, _, h2, _⟩ := close_not h
  rw [mtD_step hl, if_neg (by simp [h2]), if_pos h, if_pos (by omega)]
theorem mt_open {i : Nat} (h : cO (bt t i) = true) : mt t i = mtD t (i + 1) 1 := by
  have hl : i < t.size := bt_lt (by intro e; rw [e] at h; revert h; decide)
  unfold mt
  rw [mtD_step hl, if_pos h]; rfl
theorem mt_bracket {n f i j h : Nat} (hO : cO (bt s f) = true) (hi : cO (bt t i) = true) (e : pB s t most (pE s t most n) f (i + 1) = some (j, h)) : mt t i + 1 = j ∧ bt t (mt t i) = cC (bt s f) := by
  have hx : cX (cC (bt s f)) = true := cX_cC _ (by simpa [cO] using hO)
  obtain ⟨a, e1, e2, e3⟩ := pB_gskip (mt_scans t) (fun x i j h e => pE_gskip (mt_scans t) n x i j h e) e
  have : mt t i = a := by rw [mt_open hi, e3 1 (by omega), mt_close (by rw [e2]; exact hx)]
  rw [this]
  exact ⟨e1.symm, e2⟩
theorem mt_name {n x i a k : Nat} (h40 : bt t i = 40) (e : pE s t most n x (i + 1) = some (a, k)) (h41 : bt t a = 41) : mt t i = a := by
  rw [mt_open (by rw [h40]; decide), pE_gskip (mt_scans t) n x _ a k e 1 (by omega), mt_close (by rw [h41]; decide)]

/-- the commas up to an end, in no other bracket -/
def rnF (t : ByteArray) (e : Nat) : Nat → Nat → Nat
  | 0, _ => 0
  | n + 1, j => if j < e then (if cO (bt t j) = true then rnF t e n (mt t j + 1) else if bt t j = 44 then rnF t e n (j + 1) + 1 else rnF t e n (j + 1)) else 0
theorem rnF_eq {t : ByteArray} {e : Nat} (he : e ≤ t.size) : ∀ n m j, e - j ≤ n → e - j ≤ m → rnF t e n j = rnF t e m j
  | 0, 0, j, _, _ => rfl
  | 0, m + 1, j, h, _ => by unfold rnF; rw [if_neg (by omega)]
  | n + 1, 0, j, _, h => by unfold rnF; rw [if_neg (by omega)]
  | n + 1, m + 1, j, h1, h2 => by
    unfold rnF
    by_cases hj : j < e
    · have := mt_bd (t := t) (j := j) (by omega)
      rw [if_pos hj, if_pos hj, rnF_eq he n m (mt t j + 1) (by omega) (by omega), rnF_eq he n m (j + 1) (by omega) (by omega)]
    · rw [if_neg hj, if_neg hj]
def rn (t : ByteArray) (e j : Nat) : Nat := rnF t e (e - j) j
theorem rn_end {e j : Nat} (h : e ≤ j) : rn t e j = 0 := by unfold rn; rw [show e - j = 0 by omega]; rfl
theorem rn_step {e j : Nat} (he : e ≤ t.size) (h : j < e) : rn t e j = if cO (bt t j) = true then rn t e (mt t j + 1) else if bt t j = 44 then rn t e (j + 1) + 1 else rn t e (j + 1) := by
  have := mt_bd (t := t) (j := j) (by omega)
  unfold rn
  rw [show e - j = (e - (j + 1)) + 1 by omega]
  conv => lhs; unfold rnF
  rw [if_pos h, rnF_eq he (e - (j + 1)) (e - (mt t j + 1)) (mt t j + 1) (by omega) (by omega)]
theorem rn_plain {e j : Nat} (he : e ≤ t.size) (h : j < e) (h1 : cO (bt t j) = false) (h3 : bt t j ≠ 44) : rn t e j = rn t e (j + 1) := by
  rw [rn_step he h, if_neg (by simp [h1]), if_neg h3]
theorem pF_rn {n e : Nat} (he : e ≤ t.size) {f i j h : Nat} (hf : isF s f = true) (hp : pF s t most (pE s t most n) f i = some (j, h)) (hj : j ≤ e) : rn t e i = rn t e j := by
  have hfw := pF_fwd (most := most) (fun x i => pE_fwd s t most n x i) hf j h hp
  have hnz : bt s f ≠ 0 := by intro e; rw [isF, e] at hf; exact absurd hf (by decide)
  unfold pF at hp
  split at hp
  · cases hp
  rename_i hbt
  have hbt' : bt t i = bt s f := by omega
  split at hp
  · rename_i hL
    obtain ⟨n1, _, n3⟩ := letter_not (c := bt t i) (by rw [hbt', hL]; rfl)
    simp only [Option.some.injEq, Prod.mk.injEq] at hp
    rw [rn_plain he (by omega) n1 n3, hp.1]
  rename_i hL
  split at hp
  · rename_i hN
    obtain ⟨n1, _, n3⟩ := letter_not (c := bt t i) (by rw [hbt', hN]; simp)
    unfold pN at hp
    split at hp
    · cases hp
    rename_i h40
    have h40' : bt t (i + 1 : Nat) = 40 := by omega
    cases hq : pE s t most n (rl s (bt s f) + 2).toNat (i + 1 + 1) with
    | none => rw [hq] at hp; cases hp
    | some q =>
      obtain ⟨a, k⟩ := q
      have hq2 := pE_fwd s t most n _ _ a k hq
      rw [hq] at hp
      simp only at hp
      split at hp
      · rename_i h41
        simp only [Option.some.injEq, Prod.mk.injEq] at hp
        rw [rn_plain he (by omega) n1 n3, rn_step he (by omega), if_pos (by rw [h40']; decide), mt_name h40' hq h41, hp.1]
      · cases hp
  · rename_i hN
    have hO : cO (bt s f) = true := by simpa [isF, hL, hN] using hf
    rw [rn_step he (by omega), if_pos (by rw [hbt']; exact hO), (mt_bracket hO (by rw [hbt']; exact hO) hp).1]
theorem pEl_gt {rec : Nat → Option (Nat × Nat)} {b : Int} {many : Bool} (hr : ∀ i j h, rec i = some (j, h) → i < j) : ∀ m i top cn j h, pEl t rec b many most m i top cn = some (j, h) → i < j ∧ ∀ a k, rec i = some (a, k) → a + 1 ≤ j
  | 0, i, top, cn, j, h, e => by cases e
  | m + 1, i, top, cn, j, h, e => by
    unfold pEl at e
    cases hq : rec i with
    | none => rw [hq] at e; cases e
    | some q =>
      obtain ⟨a, k⟩ := q
      rw [hq] at e
      simp only at e
      have h1 := hr i a k hq
      have key : a + 1 ≤ j := by
        split at e
        · cases e
        split at e
        · simp only [Option.some.injEq, Prod.mk.injEq] at e; omega
        split at e
        · have := (pEl_gt hr m (a + 1) _ _ j h e).1; omega
        · cases e
      refine ⟨by omega, fun a' k' e' => ?_⟩
      simp only [Option.some.injEq, Prod.mk.injEq] at e'; omega
theorem pFs_le {g : Nat → Nat → Option (Nat × Nat)} : ∀ (L : List Nat) (i top j h : Nat), (∀ f ∈ L, ∀ i j h, g f i = some (j, h) → i < j) → pFs g L i top = some (j, h) → i ≤ j
  | [], i, top, j, h, _, e => by
    simp only [pFs, Option.some.injEq, Prod.mk.injEq] at e; omega
  | f :: L, i, top, j, h, hg, e => by
    unfold pFs at e
    cases hq : g f i with
    | none => rw [hq] at e; cases e
    | some q =>
      obtain ⟨a, k⟩ := q
      rw [hq] at e
      have := hg f (by simp) i a k hq
      have := pFs_le L a (max top k) j h (fun f' hf' => hg f' (by simp [hf'])) e
      omega
theorem pFs_rn {n e : Nat} (he : e ≤ t.size) : ∀ (L : List Nat) (i top j h : Nat), (∀ f ∈ L, isF s f = true) → pFs (pF s t most (pE s t most n)) L i top = some (j, h) → j ≤ e → rn t e i = rn t e j
  | [], i, top, j, h, _, hp, _ => by
    simp only [pFs, Option.some.injEq, Prod.mk.injEq] at hp
    rw [hp.1]
  | f :: L, i, top, j, h, hg, hp, hj => by
    unfold pFs at hp
    cases hq : pF s t most (pE s t most n) f i with
    | none => rw [hq] at hp; cases hp
    | some q =>
      obtain ⟨a, k⟩ := q
      rw [hq] at hp
      have hle := pFs_le L a (max top k) j h (fun f' hf' i j h e => (pF_fwd (most := most) (fun x i => pE_fwd s t most n x i) (hg f' (by simp [hf'])) j h e).1) hp
      rw [pF_rn he (hg f (by simp)) hq (by omega)]
      exact pFs_rn he L a (max top k) j h (fun f' hf' => hg f' (by simp [hf'])) hp hj
theorem pE_rn {n x i j h e : Nat} (he : e ≤ t.size) (hp : pE s t most n x i = some (j, h)) (hj : j ≤ e) : rn t e i = rn t e j := by
  cases n with
  | zero => cases hp
  | succ n =>
    have hlt := (pE_fwd s t most (n + 1) x i j h hp).1
    obtain ⟨k, a, hk, hk9, ha, hf⟩ := pE_parts hp
    obtain ⟨n1, _, n3⟩ := letter_not (c := bt t i) (by simp [cL, cN, cD, hk]; omega)
    rw [rn_plain he (by omega) n1 n3]
    exact pFs_rn he _ _ _ _ _ (fun f hf => (fe_mem hf).1) hf hj
theorem pEl_rn {n x e : Nat} (he : e ≤ t.size) {b : Int} {many : Bool} (heb : bt t e = b) : ∀ m i top cn j h, pEl t (pE s t most n x) b many most m i top cn = some (j, h) → e + 1 = j → rn t e i + 1 = nEl t (pE s t most n x) b m i
  | 0, i, top, cn, j, h, e', _ => by cases e'
  | m + 1, i, top, cn, j, h, e', hj => by
    have hfw : ∀ i, Fwd t (t.size + n) i (pE s t most n x i) := fun i j h e => by have := pE_fwd s t most n x i j h e; omega
    unfold pEl at e'
    cases hq : pE s t most n x i with
    | none => rw [hq] at e'; cases e'
    | some q =>
      obtain ⟨a, k⟩ := q
      rw [hq] at e'
      simp only at e'
      have hn : nEl t (pE s t most n x) b (m + 1) i = if bt t a = b then 1 else nEl t (pE s t most n x) b m (a + 1) + 1 := by simp only [nEl, hq]
      split at e'
      · cases e'
      split at e'
      · rename_i hbb
        simp only [Option.some.injEq, Prod.mk.injEq] at e'
        rw [hn, if_pos hbb, pE_rn he hq (by omega), rn_end (by omega)]
      rename_i hbb
      split at e'
      · rename_i hc
        have hae : a < e := by
          have h1 : a + 1 < j := by
            have h2 := pEl_first _ _ _ _ _ _ e'
            obtain ⟨_, j', h', g1, _⟩ := h2
            have := (pE_fwd s t most n x _ j' h' g1).1
            have := (pEl_gt (fun i j h e => (pE_fwd s t most n x i j h e).1) _ _ _ _ _ _ e').2 _ _ g1
            omega
          omega
        have ih := pEl_rn he heb m (a + 1) (max top k) (cn + 1) j h e' hj
        rw [hn, if_neg hbb, pE_rn he hq (by omega), rn_step he hae, if_neg (by rw [hc.1]; decide), if_pos hc.1, ih]
      · cases e'
/-- the reference's count -/
theorem rn_count {n f i j h : Nat} (hO : cO (bt s f) = true) (hi : cO (bt t i) = true) (e : pB s t most (pE s t most n) f (i + 1) = some (j, h)) : rn t (mt t i) (i + 1) + (if i + 1 < mt t i then 1 else 0) = nB s t (pE s t most n) f (i + 1) := by
  obtain ⟨h1, h2⟩ := mt_bracket hO hi e
  have hil : i < t.size := bt_lt (by intro e; rw [e] at hi; revert hi; decide)
  have hmb := mt_bd (t := t) (j := i) (by omega)
  unfold pB at e
  unfold nB
  split at e
  · rename_i hh
    simp only [Option.some.injEq, Prod.mk.injEq] at e
    rw [if_pos hh, rn_end (by omega), if_neg (by omega)]
  · rename_i hh
    rw [if_neg hh]
    obtain ⟨_, j', h', g1, _⟩ := pEl_first _ _ _ _ _ _ e
    have g2 := (pE_fwd s t most n _ _ j' h' g1).1
    have g3 := (pEl_gt (fun i j h e => (pE_fwd s t most n (f + 1) i j h e).1) _ _ _ _ _ _ e).2 _ _ g1
    rw [if_pos (by omega), pEl_rn hmb.2 h2 _ _ _ _ _ _ e h1]
/-- where nothing fits nothing is -/
theorem nB_none {n f i j h l : Nat} (e : pB s t most (pE s t most n) f i = some (j, h)) (hl : h ≤ l) (hx : expFit s (nFit s l) (f + 1) = false) : nB s t (pE s t most n) f i = 0 := by
  unfold pB at e
  unfold nB
  split at e
  · rename_i hh; rw [if_pos hh]
  · exfalso
    obtain ⟨_, j', h', g1, g2⟩ := pEl_first _ _ _ _ _ _ e
    have := pE_fit n (f + 1) _ _ _ l g1 (by omega)
    rw [hx] at this; cases this
theorem nB_one {n f i j h : Nat} (hf : few (bt s f) = 1) (hO : cO (bt s f) = true) (e : pB s t most (pE s t most n) f i = some (j, h)) : 1 ≤ nB s t (pE s t most n) f i := by
  have hx : cX (cC (bt s f)) = true := cX_cC _ (by simpa [cO] using hO)
  unfold pB at e
  unfold nB
  split at e
  · rename_i hh
    unfold few at hf
    rw [if_neg (by omega)] at hf; cases hf
  · rename_i hh
    rw [if_neg hh]
    exact (pEl_skip (rec := pE s t most n (f + 1)) (fun i j h e => pE_skip s t most n (f + 1) i j h e) hx _ _ _ _ _ _ e 1 0 (by omega)).2
/-- behind what is left there is a bracket at least -/
theorem pE_ends {n x j h k C q : Nat} {dr : Nat → List Int} {cl : Int} {D Z : List Int} (h' : Rest t (pE s t 0 n x) dr cl j h k C q D Z) : q + 1 ≤ j := by
  rcases h' with ⟨_, e, _⟩ | ⟨_, mm, top, cn, many, e, _⟩
  · omega
  · have := (pEl_gt (fun i j h e => (pE_fwd s t 0 n x i j h e).1) _ _ _ _ _ _ e).1
    split at this <;> omega
end
end Go.Proofs.Ytnfaiaoipeholaa
