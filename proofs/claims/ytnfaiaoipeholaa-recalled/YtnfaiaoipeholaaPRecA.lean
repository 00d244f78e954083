/- The program's Recall, whole. -/
import Derived.Test.YtnfaiaoipeholaaPRecT
namespace Go.Proofs.Ytnfaiaoipeholaa
open Go.RowKit
set_option maxHeartbeats 400000 in
set_option maxRecDepth 1000000 in
theorem pRecall_any {s t : ByteArray} (hk : (chk s).1 = 0) (h m : Int) (w : World) (ht : t.size ≤ maxLen) :
    Calls Try.prog 23 #[.string s, .string t, .int .i64 h, .int .i64 m] w fun e w' => e = .returned (.tuple #[.string (rcl s t h m).1, .int .i64 (rcl s t h m).2]) ∧ Below w.heap.size w w' := by
  have g := gram_of hk
  have ten := ten_chk hk
  have hg := hgt_good (t := t) hk
  cases hw0 : whole s t 0 with
  | none =>
    have hwh : wh s t = (0, 7) := by unfold wh; rw [hw0]
    have e : rcl s t h m = (⟨#[]⟩, 7) := by unfold rcl; rw [hg, hwh]; rfl
    rw [e]
    have HWH := hide hwh
    have HG := hide g
    clear e hwh hw0 hg ten hk g
    go_enter Try.func23, Try.ntmps23
    go_wp2_with (go_at_call 22; refine (tHeight_any (unhide HG) _ ht).mono ?_; rw [unhide HWH]; rintro e w' ⟨rfl, hw⟩; replace hw := hw.symm; subst hw)
    go_ret2
    exact ⟨rfl, Below.refl _ _⟩
  | some hh =>
    have hwh : wh s t = ((hh : Int), 0) := by unfold wh; rw [hw0]
    have e : rcl s t h m = if ¬ (1 ≤ h ∧ h ≤ 9 ∧ 1 ≤ m ∧ m ≤ 5) then (⟨#[]⟩, 9) else if h < (hh : Int) ∨ m < (mx t : Int) then (⟨#[]⟩, 10) else (strOfNums (told s t h.toNat m.toNat), 0) := by
      unfold rcl; rw [hg, hwh, if_neg (by simp)]
    rw [e]
    have ht2 := (whole_parts hw0).1
    by_cases hl : 1 ≤ h ∧ h ≤ 9 ∧ 1 ≤ m ∧ m ≤ 5
    · rw [if_neg (by simpa using hl)]
      obtain ⟨k, rfl⟩ : ∃ k : Nat, h = k := ⟨h.toNat, by omega⟩
      obtain ⟨j, rfl⟩ : ∃ j : Nat, m = j := ⟨m.toNat, by omega⟩
      by_cases hb : (k : Int) < (hh : Int) ∨ (j : Int) < (mx t : Int)
      · rw [if_pos hb]
        have HWH := hide hwh
        have HG := hide g
        have hL : Hid (decide (1 ≤ (k : Int) ∧ (k : Int) ≤ 9 ∧ 1 ≤ (j : Int) ∧ (j : Int) ≤ 5) = true) := hide (by simp only [decide_eq_true_eq]; exact hl)
        by_cases hb1 : (k : Int) < (hh : Int)
        · clear e hwh hw0 hg ten hk g hl hb
          go_enter Try.func23, Try.ntmps23
          go_wp2_with (first
            | (go_at_call 22; refine (tHeight_any (unhide HG) _ ht).mono ?_; rw [unhide HWH]; rintro e w' ⟨rfl, hw⟩; replace hw := hw.symm; subst hw)
            | (go_at_call 31; refine (areLimits_any _ _ _).mono ?_; rw [unhide hL]; rintro e w' ⟨rfl, hw⟩; replace hw := hw.symm; subst hw)
            | (go_at_call 32; refine (mostElements_any _ _ ht2).mono ?_; rintro e w' ⟨rfl, hw⟩; replace hw := hw.symm; subst hw))
          go_ret2
          exact ⟨rfl, Below.refl _ _⟩
        · have hb2 : (j : Int) < (mx t : Int) := hb.resolve_left hb1
          clear e hwh hw0 hg ten hk g hl hb
          go_enter Try.func23, Try.ntmps23
          go_wp2_with (first
            | (go_at_call 22; refine (tHeight_any (unhide HG) _ ht).mono ?_; rw [unhide HWH]; rintro e w' ⟨rfl, hw⟩; replace hw := hw.symm; subst hw)
            | (go_at_call 31; refine (areLimits_any _ _ _).mono ?_; rw [unhide hL]; rintro e w' ⟨rfl, hw⟩; replace hw := hw.symm; subst hw)
            | (go_at_call 32; refine (mostElements_any _ _ ht2).mono ?_; rintro e w' ⟨rfl, hw⟩; replace hw := hw.symm; subst hw))
          go_ret2
          exact ⟨rfl, Below.refl _ _⟩
      · rw [if_neg hb]
        simp only [Int.toNat_natCast]
        exact pRecall_ok g ten k j hh w hw0 (by omega) (by omega) (by omega) (by omega)
    · rw [if_pos hl]
      have hL : Hid (decide (1 ≤ h ∧ h ≤ 9 ∧ 1 ≤ m ∧ m ≤ 5) = false) := hide (by simp only [decide_eq_false_iff_not]; exact hl)
      have HWH := hide hwh
      have HG := hide g
      clear e hwh hw0 hg ten hk g hl
      go_enter Try.func23, Try.ntmps23
      go_wp2_with (first
        | (go_at_call 22; refine (tHeight_any (unhide HG) _ ht).mono ?_; rw [unhide HWH]; rintro e w' ⟨rfl, hw⟩; replace hw := hw.symm; subst hw)
        | (go_at_call 31; refine (areLimits_any _ _ _).mono ?_; rw [unhide hL]; rintro e w' ⟨rfl, hw⟩; replace hw := hw.symm; subst hw))
      go_ret2
      exact ⟨rfl, Below.refl _ _⟩
set_option maxHeartbeats 400000 in
set_option maxRecDepth 1000000 in
theorem recall_any {s t : ByteArray} (h m : Int) (w : World) (hs : s.size ≤ maxLen) (ht : t.size ≤ maxLen) :
    Calls Try.prog 10 #[.string s, .string t, .int .i64 h, .int .i64 m] w fun e w' => e = .returned (.tuple #[.string (rcl s t h m).1, .int .i64 (rcl s t h m).2]) ∧ Below w.heap.size w w' := by
  by_cases hk : (chk s).1 = 0
  · have h' : ((chk s).1 != 0) = false := by simp [hk]
    have HK := hide hk; clear hk
    generalize hR : rcl s t h m = R
    have HR := hide hR; clear hR
    go_enter Try.func10, Try.ntmps10
    go_wp2_with (first | (go_at_call 21; refine (rcheck_any _ _ hs).mono ?_; rintro e w1 ⟨rfl, hb1⟩) | (go_at_call 23; refine (pRecall_any (unhide HK) _ _ _ ht).mono ?_; rw [unhide HR]; rintro e w2 ⟨rfl, hb2⟩))
    go_ret2; exact ⟨rfl, hb1.trans (hb2.mono hb1.size)⟩
  · have e : rcl s t h m = (⟨#[]⟩, (chk s).1) := by unfold rcl; rw [hgt_bad hk, if_pos hk]
    rw [e]
    have h' : ((chk s).1 != 0) = true := by simp [hk]
    clear hk e
    go_enter Try.func10, Try.ntmps10
    go_wp2_with (first | (go_at_call 21; refine (rcheck_any _ _ hs).mono ?_; rintro e w1 ⟨rfl, hb1⟩))
    go_ret2; exact ⟨rfl, hb1⟩
end Go.Proofs.Ytnfaiaoipeholaa
