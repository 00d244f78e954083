/- Parse of the document's own example. No Go here. -/
import Derived.Test.YtnfaiaoipeholaaGreatUPar
namespace Go.Proofs.YtnfaiaoipeholaaGreat
/-- a table for six places and two letters -/
def tb6 (l : List Nat) (p a b : Nat) : Nat := if p < 6 ∧ a ≤ b ∧ b ≤ 2 then l.getD (p * 9 + a * 3 + b) 2001 else 2001
theorem tb6_cap {l : List Nat} (h : ∀ x ∈ l, x ≤ 2001) (p a b : Nat) : tb6 l p a b ≤ 2001 := by
  unfold tb6; split
  · rw [List.getD_eq_getElem?_getD]
    cases hq : l[p * 9 + a * 3 + b]? with
    | none => exact Nat.le_refl _
    | some v => exact h v (List.mem_of_getElem? hq)
  · exact Nat.le_refl _
def hdS : ByteArray := ⟨#[83, 61, 97, 83, 124, 59]⟩
def hdA : ByteArray := ⟨#[97, 97]⟩
def hdB : ByteArray := ⟨#[97, 98]⟩
def hdRA : List Nat := [4, 9, 14, 2001, 4, 9, 2001, 2001, 4, 0, 2001, 2001, 2001, 0, 2001, 2001, 2001, 0, 2001, 5, 10, 2001, 2001, 5, 2001, 2001, 2001, 4, 9, 14, 2001, 4, 9, 2001, 2001, 4, 0, 2001, 2001, 2001, 0, 2001, 2001, 2001, 0, 0, 2001, 2001, 2001, 0, 2001, 2001, 2001, 0]
def hdXA : List Nat := [2001, 2001, 2001, 2001, 2001, 2001, 2001, 2001, 2001, 2001, 2001, 2001, 2001, 2001, 2001, 2001, 2001, 2001, 1, 6, 11, 2001, 1, 6, 2001, 2001, 1, 2001, 2001, 2001, 2001, 2001, 2001, 2001, 2001, 2001, 2001, 2001, 2001, 2001, 2001, 2001, 2001, 2001, 2001, 2001, 2001, 2001, 2001, 2001, 2001, 2001, 2001, 2001]
def hdRB : List Nat := [4, 9, 2001, 2001, 4, 2001, 2001, 2001, 4, 0, 2001, 2001, 2001, 0, 2001, 2001, 2001, 0, 2001, 5, 2001, 2001, 2001, 2001, 2001, 2001, 2001, 4, 9, 2001, 2001, 4, 2001, 2001, 2001, 4, 0, 2001, 2001, 2001, 0, 2001, 2001, 2001, 0, 0, 2001, 2001, 2001, 0, 2001, 2001, 2001, 0]
def hdXB : List Nat := [2001, 2001, 2001, 2001, 2001, 2001, 2001, 2001, 2001, 2001, 2001, 2001, 2001, 2001, 2001, 2001, 2001, 2001, 1, 6, 2001, 2001, 1, 2001, 2001, 2001, 1, 2001, 2001, 2001, 2001, 2001, 2001, 2001, 2001, 2001, 2001, 2001, 2001, 2001, 2001, 2001, 2001, 2001, 2001, 2001, 2001, 2001, 2001, 2001, 2001, 2001, 2001, 2001]
theorem fix6 {s u : ByteArray} {lr lx : List Nat} (hs : s.size = 6) (hu : u.size = 2) (h1 : ∀ x ∈ lr, x ≤ 2001) (h2 : ∀ x ∈ lx, x ≤ 2001)
    (h3 : ∀ p, p < 6 → begs s p = false → ∀ a, a < 3 → ∀ b, b < 3 → tb6 lx p a b = 2001)
    (h4 : ∀ a, a < 3 → ∀ b, b < 3 → a ≤ b → ∀ p, p < 6 → tb6 lr p a b = (rsC s u (tb6 lr) (tb6 lx) (tb6 lx) p a b).1)
    (h5 : ∀ a, a < 3 → ∀ b, b < 3 → a ≤ b → ∀ p, p < 6 → (begs s p && !(tb6 lx p a b == (exC s (tb6 lr) p a b).1 && tb6 lx p a b == (rwC (tb6 lx) (tb6 lx) p a b).1)) = false) :
    Fix s u (tb6 lr) (tb6 lx) (tb6 lx) := by
  have hx : ∀ p a b, ¬ (p < s.size ∧ a ≤ b ∧ b ≤ u.size ∧ begs s p = true) → tb6 lx p a b = 2001 := fun p a b h => by
    rw [hs, hu] at h
    by_cases hd : p < 6 ∧ a ≤ b ∧ b ≤ 2
    · have hb : begs s p = false := by
        cases e : begs s p
        · rfl
        · exact absurd ⟨hd.1, hd.2.1, hd.2.2, e⟩ h
      exact h3 p hd.1 hb a (by omega) b (by omega)
    · unfold tb6; rw [if_neg hd]
  have h6 : ∀ a, a < 3 → ∀ b, b < 3 → a ≤ b → ∀ p, p < 6 → begs s p = true → tb6 lx p a b = (exC s (tb6 lr) p a b).1 ∧ tb6 lx p a b = (rwC (tb6 lx) (tb6 lx) p a b).1 := fun a ha b hb hab p hp hg => by
    have := h5 a ha b hb hab p hp
    rw [hg] at this
    simpa using this
  refine { cR := tb6_cap h1, cX := tb6_cap h2, cW := tb6_cap h2, oR := fun p a b h => ?_, oX := hx, oW := hx, fix := fun a b hab hb => ?_ }
  · rw [hs, hu] at h; unfold tb6; rw [if_neg h]
  · rw [hu] at hb
    exact ⟨fun p hp => h4 a (by omega) b (by omega) hab p (by omega), fun p hp hg => (h6 a (by omega) b (by omega) hab p (by omega) hg).1, fun p hp hg => (h6 a (by omega) b (by omega) hab p (by omega) hg).2⟩
theorem hd_fixA : Fix hdS hdA (tb6 hdRA) (tb6 hdXA) (tb6 hdXA) :=
  fix6 rfl rfl (by decide +kernel) (by decide +kernel) (by decide +kernel) (by decide +kernel) (by decide +kernel)
theorem hd_fixB : Fix hdS hdB (tb6 hdRB) (tb6 hdXB) (tb6 hdXB) :=
  fix6 rfl rfl (by decide +kernel) (by decide +kernel) (by decide +kernel) (by decide +kernel) (by decide +kernel)
theorem hd_prsA [Inhabited Chr] : prs hdS hdA = (⟨#[83, 40, 48, 97, 83, 40, 48, 97, 83, 40, 49, 41, 41, 41]⟩, 0) := by
  unfold prs prsR
  rw [if_neg (by decide +kernel), if_neg (by decide +kernel), tabs_eq hd_fixA, if_neg (by decide +kernel)]
  decide +kernel
theorem hd_prsB [Inhabited Chr] : prs hdS hdB = (⟨#[]⟩, 13) := by
  unfold prs prsR
  rw [if_neg (by decide +kernel), if_neg (by decide +kernel), tabs_eq hd_fixB, if_pos (by decide +kernel)]
end Go.Proofs.YtnfaiaoipeholaaGreat
