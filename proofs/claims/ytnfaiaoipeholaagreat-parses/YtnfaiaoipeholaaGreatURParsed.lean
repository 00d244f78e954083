/- The reference's Parsed. -/
import Derived.Test.YtnfaiaoipeholaaGreatURWord
namespace Go.Proofs.YtnfaiaoipeholaaGreat
open Go.RowKit
theorem bnextR {w w1 w2 : World} (h : Below w.heap.size w w1) (g : Below w1.heap.size w1 w2) : Below w.heap.size w w2 := h.trans (g.mono h.size)
theorem str_ne {a b : ByteArray} (h : ¬ a = b) : (a.toList == b.toList) = false := by
  rw [ByteArray.toList_eq, ByteArray.toList_eq]
  simp only [beq_eq_false_iff_ne, ne_eq]
  intro e
  apply h
  obtain ⟨x⟩ := a
  obtain ⟨y⟩ := b
  have : x = y := Array.toList_inj.1 e
  rw [this]
set_option maxHeartbeats 1000000 in
set_option maxRecDepth 1000000 in
theorem refParsed_true [Inhabited Chr] (s u o : ByteArray) (w : World) (hs : s.size ≤ maxLen) (hu : u.size ≤ maxLen) (ho : o.size ≤ maxLen) (hx : (chk s).1 = 0 → isW u = true → HasFix s u) :
    Calls Tryz.prog 36 #[.string s, .string u, .string (prs s u).1, .int .i64 (prs s u).2, .string o] w fun e w' => e = .returned (.bool true) ∧ Below w.heap.size w w' := by
  by_cases hk : (chk s).1 = 0
  · have HC : Hid (chk s = (0, (chk s).2)) := hide (by rw [← hk])
    by_cases h20 : u.size ≤ 20
    · by_cases hws : wd u = u
      · have hw : isW u = true := isW_iff.2 ⟨h20, hws⟩
        have HW := hide hws
        rcases prs_ok hk hw (hx hk hw) with ⟨h1, h2, h3, h4⟩ | ⟨h1, h2, h3⟩
        · obtain ⟨P, hP⟩ : ∃ P, prs s u = (P, 0) := ⟨_, by rw [← h1]⟩
          rw [hP] at h2 h3 h4
          simp only at h2 h3 h4
          rw [hP]
          have hpz : P.size ≤ maxLen := by unfold maxLen; omega
          obtain ⟨y, hy⟩ : ∃ y, hgt s P = (y, 0) := ⟨_, by rw [← h2]⟩
          have HY := hide hy
          have H3 := hide h3
          clear hP h1 h2 h3 h4 hy hw hws hx hk
          simp only
          go_enter Tryz.func36, Tryz.ntmps36
          go_wp2_with fail
          refine (refCheck_any _ _ hs).mono ?_
          rw [unhide HC]
          rintro e w1 ⟨rfl, hb1⟩
          go_wp2_with fail
          refine (refWord_any _ _ hu).mono ?_
          rw [unhide HW]
          rintro e w' ⟨rfl, hw⟩
          replace hw := hw.symm
          subst hw
          go_wp2_with fail
          refine (refHeight_any _ _ _ hs hpz).mono ?_
          rw [unhide HY]
          rintro e w2 ⟨rfl, hb2⟩
          go_wp2_with fail
          refine (refWord_any _ _ hpz).mono ?_
          rw [unhide H3]
          rintro e w' ⟨rfl, hw⟩
          replace hw := hw.symm
          subst hw
          go_wp2
          go_ret
          exact ⟨rfl, bnextR hb1 hb2⟩
        · have hP : prs s u = (⟨#[]⟩, 13) := by rw [← h1, ← h2]
          rw [hP]
          have H3 := hide (h3 o)
          clear hP h1 h2 h3 hw hws hx hk
          simp only
          go_enter Tryz.func36, Tryz.ntmps36
          go_wp2_with fail
          refine (refCheck_any _ _ hs).mono ?_
          rw [unhide HC]
          rintro e w1 ⟨rfl, hb1⟩
          go_wp2_with fail
          refine (refWord_any _ _ hu).mono ?_
          rw [unhide HW]
          rintro e w' ⟨rfl, hw⟩
          replace hw := hw.symm
          subst hw
          go_wp2_with fail
          refine (refHeight_any _ _ _ hs ho).mono ?_
          generalize hH : hgt s o = H at *
          obtain ⟨y, g⟩ := H
          rintro e w2 ⟨rfl, hb2⟩
          by_cases hg : g = 0
          · have hne : ¬ wd o = u := unhide H3 (by rw [hg])
            subst hg
            have HN := hide (str_ne hne)
            clear hne H3 hH
            simp only
            go_wp2_with fail
            refine (refWord_any _ _ ho).mono ?_
            generalize wd o = V at *
            rintro e w' ⟨rfl, hw⟩
            replace hw := hw.symm
            subst hw
            have hN := unhide HN
            go_wp2
            go_ret
            exact ⟨rfl, bnextR hb1 hb2⟩
          · have hg' : (g != 0) = true := by simp [hg]
            clear H3 hH hg
            simp only
            go_wp2
            go_ret
            exact ⟨rfl, bnextR hb1 hb2⟩
      · have hw : isW u = false := by
          cases h : isW u
          · rfl
          · exact absurd (isW_iff.1 h).2 hws
        rw [prs_word hk hw]
        have HN := hide (str_ne hws)
        clear hw hws hx hk
        simp only
        go_enter Tryz.func36, Tryz.ntmps36
        go_wp2_with fail
        refine (refCheck_any _ _ hs).mono ?_
        rw [unhide HC]
        rintro e w1 ⟨rfl, hb1⟩
        go_wp2_with fail
        refine (refWord_any _ _ hu).mono ?_
        generalize wd u = V at *
        rintro e w' ⟨rfl, hw⟩
        replace hw := hw.symm
        subst hw
        have hN := unhide HN
        go_wp2
        go_ret
        exact ⟨rfl, hb1⟩
    · have hw : isW u = false := by
        cases h : isW u
        · rfl
        · exact absurd (isW_iff.1 h).1 h20
      rw [prs_word hk hw]
      clear hw hx hk
      simp only
      go_enter Tryz.func36, Tryz.ntmps36
      go_wp2_with fail
      refine (refCheck_any _ _ hs).mono ?_
      rw [unhide HC]
      rintro e w1 ⟨rfl, hb1⟩
      go_wp2
      go_ret
      exact ⟨rfl, hb1⟩
  · rw [prs_bad hk]
    have hk1 : ((chk s).1 == 0) = false := by simp [hk]
    have hk2 : ((chk s).1 != 0) = true := by simp [hk]
    clear hk hx
    simp only
    go_enter Tryz.func36, Tryz.ntmps36
    go_wp2_with fail
    refine (refCheck_any _ _ hs).mono ?_
    rintro e w1 ⟨rfl, hb1⟩
    go_wp2
    go_ret
    exact ⟨rfl, hb1⟩
end Go.Proofs.YtnfaiaoipeholaaGreat
