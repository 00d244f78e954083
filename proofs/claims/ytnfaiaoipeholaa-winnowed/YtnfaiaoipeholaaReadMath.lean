/- A tree of a grammar, read: where it ends, and its height. No Go here. -/
import Derived.Test.YtnfaiaoipeholaaGoodMath
namespace Go.Proofs.Ytnfaiaoipeholaa

/-- factors, one behind the other -/
def pFs (g : Nat → Nat → Option (Nat × Nat)) : List Nat → Nat → Nat → Option (Nat × Nat)
  | [], i, top => some (i, top)
  | f :: l, i, top => match g f i with
    | none => none
    | some (j, h) => pFs g l j (max top h)
/-- elements up to a bracket -/
def pEl (t : ByteArray) (rec : Nat → Option (Nat × Nat)) (b : Int) (many : Bool) (most : Int) : Nat → Nat → Nat → Int → Option (Nat × Nat)
  | 0, _, _, _ => none
  | m + 1, i, top, cnt => match rec i with
    | none => none
    | some (j, h) => if 0 < most ∧ most < cnt + 1 then none else if bt t j = b then some (j + 1, max top h) else if bt t j = 44 ∧ many = true then pEl t rec b many most m (j + 1) (max top h) (cnt + 1) else none
/-- behind a bracket that opens -/
def pB (s t : ByteArray) (most : Int) (rec : Nat → Nat → Option (Nat × Nat)) (f i : Nat) : Option (Nat × Nat) :=
  if bt t i = cC (bt s f) ∧ (bt s f = 91 ∨ bt s f = 123) then some (i + 1, 0)
  else pEl t (rec (f + 1)) (cC (bt s f)) (decide (bt s f = 123 ∨ bt s f = 60)) most (t.size - i) i 0 0
/-- a name's brackets, from the place of the one that opens -/
def pN (s t : ByteArray) (rec : Nat → Nat → Option (Nat × Nat)) (f i : Nat) : Option (Nat × Nat) :=
  if bt t i ≠ 40 then none
  else match rec (rl s (bt s f) + 2).toNat (i + 1) with
    | none => none
    | some (j, h) => if bt t j = 41 then some (j + 1, h + 1) else none
/-- a factor -/
def pF (s t : ByteArray) (most : Int) (rec : Nat → Nat → Option (Nat × Nat)) (f i : Nat) : Option (Nat × Nat) :=
  if bt t i ≠ bt s f then none
  else if cL (bt s f) = true then some (i + 1, 0)
  else if cN (bt s f) = true then pN s t rec f (i + 1)
  else pB s t most rec f (i + 1)
/-- an expression -/
def pE (s t : ByteArray) (most : Int) : Nat → Nat → Nat → Option (Nat × Nat)
  | 0, _, _ => none
  | n + 1, x, i => if cD (bt t i) = true then
      match ap s (bt t i - 48).toNat x with
      | none => none
      | some a => pFs (pF s t most (pE s t most n)) (fe s a).1 (i + 1) 0
    else none
/-- the whole text -/
def whole (s t : ByteArray) (most : Int) : Option Nat :=
  if 2000 < t.size then none
  else match pF s t most (pE s t most (t.size + 1)) 0 0 with
    | none => none
    | some (j, h) => if j = t.size then some h else none
/-- P4 -/
def hgt (s t : ByteArray) : Int × Int :=
  if (chk s).1 ≠ 0 then (0, (chk s).1)
  else match whole s t 0 with
    | none => (0, 7)
    | some h => ((h : Int), 0)

/-- what is read lies behind, within the text, and is not higher than so much -/
def Fwd (t : ByteArray) (n i : Nat) (r : Option (Nat × Nat)) : Prop := ∀ j h, r = some (j, h) → i < j ∧ j ≤ t.size ∧ h ≤ n
theorem Fwd.none {t : ByteArray} {n i : Nat} : Fwd t n i none := by intro j h e; cases e
theorem pEl_fwd {t : ByteArray} {rec : Nat → Option (Nat × Nat)} {b : Int} {many : Bool} {most : Int} {n : Nat} (hr : ∀ i, Fwd t n i (rec i)) (hb : b ≠ 0) :
    ∀ m i top cnt, top ≤ n → Fwd t n i (pEl t rec b many most m i top cnt)
  | 0, i, top, cnt, _ => Fwd.none
  | m + 1, i, top, cnt, ht => by
    intro j h e
    unfold pEl at e
    cases hq : rec i with
    | none => rw [hq] at e; cases e
    | some q =>
      obtain ⟨a, c⟩ := q
      rw [hq] at e
      simp only at e
      have h1 := hr i a c hq
      split at e
      · cases e
      split at e
      · rename_i hb'
        have := bt_lt (s := t) (p := a) (by omega)
        simp at e; omega
      split at e
      · have := pEl_fwd hr hb m (a + 1) (max top c) (cnt + 1) (by omega) j h e; omega
      · cases e
theorem pB_fwd {s t : ByteArray} {most : Int} {rec : Nat → Nat → Option (Nat × Nat)} {n : Nat} (hr : ∀ x i, Fwd t n i (rec x i)) {f i : Nat} (hc : cC (bt s f) ≠ 0) : Fwd t n i (pB s t most rec f i) := by
  unfold pB; split
  · rename_i h
    have := bt_lt (s := t) (p := i) (by omega)
    intro j k e; simp at e; omega
  · exact pEl_fwd (hr (f + 1)) hc _ _ _ _ (by omega)
theorem pN_fwd {s t : ByteArray} {rec : Nat → Nat → Option (Nat × Nat)} {n : Nat} (hr : ∀ x i, Fwd t n i (rec x i)) {f i : Nat} : Fwd t (n + 1) i (pN s t rec f i) := by
  unfold pN; split
  · exact Fwd.none
  · intro j h e
    cases hq : rec (rl s (bt s f) + 2).toNat (i + 1) with
    | none => rw [hq] at e; cases e
    | some q =>
      obtain ⟨a, c⟩ := q
      rw [hq] at e
      simp only at e
      have h1 := hr _ _ a c hq
      split at e
      · have := bt_lt (s := t) (p := a) (by omega)
        simp at e; omega
      · cases e
theorem isF_cC {s : ByteArray} {f : Nat} (h : isF s f = true) (h1 : cL (bt s f) = false) (h2 : cN (bt s f) = false) : cC (bt s f) ≠ 0 := by
  simpa [isF, h1, h2, cO] using h
theorem pF_fwd {s t : ByteArray} {most : Int} {rec : Nat → Nat → Option (Nat × Nat)} {n : Nat} (hr : ∀ x i, Fwd t n i (rec x i)) {f i : Nat} (hf : isF s f = true) : Fwd t (n + 1) i (pF s t most rec f i) := by
  have hnz : bt s f ≠ 0 := by intro e; rw [isF, e] at hf; exact absurd hf (by decide)
  unfold pF; split
  · exact Fwd.none
  · rename_i he
    have hlt := bt_lt (s := t) (p := i) (by omega)
    split
    · intro j h e; simp at e; omega
    · rename_i hl
      split
      · intro j h e; have := pN_fwd hr j h e; omega
      · rename_i hn
        intro j h e; have := pB_fwd hr (isF_cC hf (by simpa using hl) (by simpa using hn)) j h e; omega
theorem pFs_fwd {t : ByteArray} {g : Nat → Nat → Option (Nat × Nat)} {n : Nat} : ∀ (l : List Nat) (i top : Nat), (∀ f ∈ l, ∀ i, Fwd t n i (g f i)) → top ≤ n → ∀ j h, pFs g l i top = some (j, h) → i ≤ j ∧ (j ≤ t.size ∨ j = i) ∧ h ≤ n
  | [], i, top, hg, ht, j, h, e => by simp [pFs] at e; omega
  | f :: l, i, top, hg, ht, j, h, e => by
    unfold pFs at e
    cases hq : g f i with
    | none => rw [hq] at e; cases e
    | some q =>
      obtain ⟨a, c⟩ := q
      rw [hq] at e
      have h1 := hg f (by simp) i a c hq
      have := pFs_fwd l a (max top c) (fun f' hf' => hg f' (by simp [hf'])) (by omega) j h e
      omega
theorem pE_fwd (s t : ByteArray) (most : Int) : ∀ n x i, Fwd t n i (pE s t most n x i)
  | 0, x, i => Fwd.none
  | n + 1, x, i => by
    unfold pE; split
    · rename_i hd
      have hlt := bt_lt (s := t) (p := i) (by intro e; rw [e] at hd; exact absurd hd (by decide))
      intro j h e
      cases hq : ap s (bt t i - 48).toNat x with
      | none => rw [hq] at e; cases e
      | some a =>
        rw [hq] at e
        have := pFs_fwd (t := t) (n := n + 1) (fe s a).1 (i + 1) 0 (fun f hf i => pF_fwd (fun x i => pE_fwd s t most n x i) (fe_mem hf).1) (by omega) j h e
        omega
    · exact Fwd.none
theorem pE_out {s t : ByteArray} {most : Int} {n x i : Nat} (h : t.size ≤ i) : pE s t most n x i = none := by
  cases n with
  | zero => rfl
  | succ n => unfold pE; rw [if_neg]; rw [bt_out t i (by omega)]; decide
/-- one element alone -/
theorem pEl_one {t : ByteArray} {rec : Nat → Option (Nat × Nat)} {b : Int} {i : Nat} (ho : t.size ≤ i → rec i = none) :
    pEl t rec b false 0 (t.size - i) i 0 0 = match rec i with
      | none => none
      | some (j, h) => if bt t j = b then some (j + 1, h) else none := by
  by_cases h : t.size ≤ i
  · rw [ho h, show t.size - i = 0 by omega]; rfl
  · obtain ⟨m, hm⟩ : ∃ m, t.size - i = m + 1 := ⟨t.size - i - 1, by omega⟩
    rw [hm]; unfold pEl
    cases rec i with
    | none => rfl
    | some q => simp
end Go.Proofs.Ytnfaiaoipeholaa
