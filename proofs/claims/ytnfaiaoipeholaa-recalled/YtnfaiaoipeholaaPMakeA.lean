/- The program's Make, whole. -/
import Derived.Test.YtnfaiaoipeholaaPMakeT
namespace Go.Proofs.Ytnfaiaoipeholaa
open Go.RowKit
set_option maxHeartbeats 400000 in
set_option maxRecDepth 1000000 in
theorem pMake_any {s c : ByteArray} (g : Gram s) (ten : Ten s) (h m : Int) (w : World) (hc : c.size ≤ maxLen) :
    Calls Try.prog 24 #[.string s, .string c, .int .i64 h, .int .i64 m] w fun e w' => e = .returned (.tuple #[.string (mkR s c h m).1, .int .i64 (mkR s c h m).2]) ∧ Below w.heap.size w w' := by
  by_cases h1 : 2000 < c.size ∨ digs c = false
  · have hA : Hid ((decide (¬ (2000 < c.size)) && digs c) = false) := hide (by rcases h1 with h1 | h1 <;> simp [h1])
    have e : mkR s c h m = (⟨#[]⟩, 8) := by unfold mkR; rw [if_pos h1]
    rw [e]
    clear h1 e
    go_enter Try.func24, Try.ntmps24
    go_wp2_with (go_at_call 35; refine (areChoices_any _ _ hc).mono ?_; rw [unhide hA]; rintro e w' ⟨rfl, hw⟩; replace hw := hw.symm; subst hw)
    go_ret2
    exact ⟨rfl, Below.refl _ _⟩
  · have h2 : digs c = true := by
      cases e : digs c
      · exact absurd (.inr e) h1
      · rfl
    have h3 : ¬ 2000 < c.size := fun e => h1 (.inl e)
    by_cases hl : 1 ≤ h ∧ h ≤ 9 ∧ 1 ≤ m ∧ m ≤ 5
    · obtain ⟨k, rfl⟩ : ∃ k : Nat, h = k := ⟨h.toNat, by omega⟩
      obtain ⟨j, rfl⟩ : ∃ j : Nat, m = j := ⟨m.toNat, by omega⟩
      exact pMake_ok g ten k j w hc h3 h2 (by omega) (by omega)
    · have hA : Hid ((decide (¬ (2000 < c.size)) && digs c) = true) := hide (by simp [h2, h3])
      have hL : Hid (decide (1 ≤ h ∧ h ≤ 9 ∧ 1 ≤ m ∧ m ≤ 5) = false) := hide (by simp only [decide_eq_false_iff_not]; exact hl)
      have e : mkR s c h m = (⟨#[]⟩, 9) := by unfold mkR; rw [if_neg h1, if_pos hl]
      rw [e]
      clear h1 e h2 h3 hl
      go_enter Try.func24, Try.ntmps24
      go_wp2_with (first
        | (go_at_call 35; refine (areChoices_any _ _ hc).mono ?_; rw [unhide hA]; rintro e w' ⟨rfl, hw⟩; replace hw := hw.symm; subst hw)
        | (go_at_call 31; refine (areLimits_any _ _ _).mono ?_; rw [unhide hL]; rintro e w' ⟨rfl, hw⟩; replace hw := hw.symm; subst hw))
      go_ret2
      exact ⟨rfl, Below.refl _ _⟩
section
variable {s c : ByteArray}
set_option maxHeartbeats 400000 in
set_option maxRecDepth 1000000 in
theorem make_any (h m : Int) (w : World) (hs : s.size ≤ maxLen) (hc : c.size ≤ maxLen) :
    Calls Try.prog 11 #[.string s, .string c, .int .i64 h, .int .i64 m] w fun e w' => e = .returned (.tuple #[.string (mk s c h m).1, .int .i64 (mk s c h m).2]) ∧ Below w.heap.size w w' := by
  by_cases hk : (chk s).1 = 0
  · have e : mk s c h m = mkR s c h m := by unfold mk; rw [if_neg (by simp [hk])]
    rw [e]
    have h' : ((chk s).1 != 0) = false := by simp [hk]
    have G := hide (gram_of hk); have TN := hide (ten_chk hk); clear hk e
    generalize hR : mkR s c h m = R
    have HR := hide hR; clear hR
    go_enter Try.func11, Try.ntmps11
    go_wp2_with (first | (go_at_call 21; refine (rcheck_any _ _ hs).mono ?_; rintro e w1 ⟨rfl, hb1⟩) | (go_at_call 24; refine (pMake_any (unhide G) (unhide TN) _ _ _ hc).mono ?_; rw [unhide HR]; rintro e w2 ⟨rfl, hb2⟩))
    go_ret2; exact ⟨rfl, hb1.trans (hb2.mono hb1.size)⟩
  · have e : mk s c h m = (⟨#[]⟩, (chk s).1) := by unfold mk; rw [if_pos hk]
    rw [e]
    have h' : ((chk s).1 != 0) = true := by simp [hk]
    clear hk e
    go_enter Try.func11, Try.ntmps11
    go_wp2_with (first | (go_at_call 21; refine (rcheck_any _ _ hs).mono ?_; rintro e w1 ⟨rfl, hb1⟩))
    go_ret2; exact ⟨rfl, hb1⟩
end
end Go.Proofs.Ytnfaiaoipeholaa
