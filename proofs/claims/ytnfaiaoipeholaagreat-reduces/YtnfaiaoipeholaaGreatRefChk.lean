/- The reference's Check: what it answers. -/
import Derived.Test.YtnfaiaoipeholaaGreatInside
namespace Go.Proofs.YtnfaiaoipeholaaGreat
open Go.RowKit

theorem mst_in {c : Int} {op al : List Int} (h : ¬ (c = 59 ∧ op = [])) : mst c 2 op al = ((stp c op al).1, 2, (stp c op al).2) := by
  unfold mst; rw [if_neg (by omega), if_neg (by omega), if_neg h]
/-- the form's state in the reference's two slices: only within an expression do they matter -/
def Sh (w : World) (B : Nat) (a : Int) (vo va : Value) (op al : List Int) : Prop :=
  Inv a op al ∧ (a = 2 → Two w B vo va op al) ∧ ∃ ao cap, ∃ n : Nat, vo = .slice ao n cap ∧ n ≤ maxLen

set_option maxHeartbeats 400000 in
set_option maxRecDepth 1000000 in
theorem shape_any (s : ByteArray) (w : World) (hs : s.size ≤ maxLen) :
    Calls Tryz.prog 56 #[.string s] w fun e w' => e = .returned (.tuple #[.int .i64 (fmF s s.size 0 0 [] []).1, .int .i64 (fmF s s.size 0 0 [] []).2]) ∧ Below w.heap.size w w' := by
  unfold maxLen at hs
  go_enter Tryz.func56, Tryz.ntmps56
  go_wp2
  go_loopw [4, 5, 6, 7] (fun at_ vo va i wr => ∃ (k : Nat) (a : Int) (op al : List Int), k ≤ s.size ∧ i = .int .i64 k ∧ at_ = .int .i64 a ∧ Sh wr w.heap.size a vo va op al ∧ Below w.heap.size w wr ∧ Hid (fmF s s.size 0 0 [] [] = fmF s (s.size - k) k a op al)) (fun _ _ _ i _ => s.size - (intOf i).toNat)
  case atStart => exact ⟨0, 0, [], [], Nat.zero_le _, rfl, rfl, ⟨Inv.start, by simp, none, 0, 0, rfl, by unfold maxLen; omega⟩, Below.refl _ _, hide rfl⟩
  case round =>
    obtain ⟨k, a, op, al, hk, rfl, rfl, hS, hB, hr⟩ := hrel
    obtain ⟨hI, hT, ao, co, no, rfl, hno⟩ := hS
    have HI := hide hI; have HT := hide hT; clear hI hT
    unfold maxLen at hno
    by_cases hlt : k < s.size
    · have H := hide (bt_at s k hlt)
      by_cases ha0 : a = 0
      · subst ha0
        cases hn : cN (s[k].toNat : Int)
        · have hn' := hide hn; clear hn
          go_wp2_with (go_at_call 59; refine (name_any _ _).mono ?_; rintro e w' ⟨rfl, rfl⟩; rw [unhide hn'])
          go_ret2
          exact ⟨by rw [unhide hr, fmF_bad hlt (by rw [unhide H, mst_name, if_neg (by simp [unhide hn'])]; simp), unhide H, mst_name, if_neg (by simp [unhide hn'])]; rfl, hB⟩
        · have hn' := hide hn; clear hn
          go_wp2_with (go_at_call 59; refine (name_any _ _).mono ?_; rintro e w' ⟨rfl, rfl⟩; rw [unhide hn'])
          go_roundw
          case rel =>
            have hm : mst (bt s k) 0 op al = (0, 1, op, al) := by rw [unhide H, mst_name, if_pos (unhide hn')]
            have h0 : (mst (bt s k) 0 op al).1 = 0 := by rw [hm]
            have hf := fmF_good hlt h0
            have hst := (unhide HI).step h0
            rw [hm] at hf hst
            exact ⟨k + 1, 1, op, al, by omega, by go_num, rfl, ⟨hst, by simp, ao, co, no, rfl, by unfold maxLen; omega⟩, hB, hide ((unhide hr).trans hf)⟩
          case measure => simp [intOf]; omega
      by_cases ha1 : a = 1
      · subst ha1
        by_cases he : (s[k].toNat : Int) = 61
        · have he' : ((s[k].toNat : Int) == 61) = true := by simp [he]
          have HE := hide he; clear he
          go_wp2_with (go_at_call 59; refine (name_any _ _).mono ?_; rintro e w' ⟨rfl, hw⟩; subst hw)
          go_roundw
          case rel =>
            have hm : mst (bt s k) 1 op al = (0, 2, [], [1]) := by rw [unhide H, mst_eq, if_pos (unhide HE)]
            have h0 : (mst (bt s k) 1 op al).1 = 0 := by rw [hm]
            have hf := fmF_good hlt h0
            have hst := (unhide HI).step h0
            rw [hm] at hf hst
            refine ⟨k + 1, 2, [], [1], by omega, by go_num, rfl, ⟨hst, fun _ => ⟨World.ownsRow_nil _ _ _ _, ?_, .inl rfl⟩, none, 0, 0, rfl, by unfold maxLen; omega⟩, hB.alloc hB.size _, hide ((unhide hr).trans hf)⟩
            exact World.ownsRow_lit _ _ 1 hB.size (by unfold maxLen; omega) rfl
          case measure => simp [intOf]; omega
        · have he' : ((s[k].toNat : Int) == 61) = false := by simp only [beq_eq_false_iff_ne]; exact he
          go_wp2_with (go_at_call 59; refine (name_any _ _).mono ?_; rintro e w' ⟨rfl, hw⟩; subst hw)
          go_ret2
          exact ⟨by rw [unhide hr, fmF_bad hlt (by rw [unhide H, mst_eq, if_neg he]; simp), unhide H, mst_eq, if_neg he]; rfl, hB⟩
      · have ha2 : a = 2 := by have := (unhide HI).1; have := (unhide HI).2.1; omega
        subst ha2
        have T := unhide HT rfl
        obtain ⟨ao', co', hv⟩ := T.formO
        injection hv with hv1 hv2 hv3
        subst hv1 hv2 hv3
        by_cases hz : (s[k].toNat : Int) = 59 ∧ op = []
        · have hz1 : ((s[k].toNat : Int) == 59) = true := by simp [hz.1]
          have hz2 : ((op.length : Int) == 0) = true := by simp [hz.2]
          have HZ := hide hz; clear hz
          have HTT := hide T; clear T
          go_wp2_with (go_at_call 59; refine (name_any _ _).mono ?_; rintro e w' ⟨rfl, hw⟩; subst hw)
          go_roundw
          case rel =>
            have hm : mst (bt s k) 2 op al = (0, 0, op, al) := by rw [unhide H]; unfold mst; rw [if_neg (by omega), if_neg (by omega), if_pos (unhide HZ)]
            have h0 : (mst (bt s k) 2 op al).1 = 0 := by rw [hm]
            have hf := fmF_good hlt h0
            have hst := (unhide HI).step h0
            rw [hm] at hf hst
            exact ⟨k + 1, 0, op, al, by omega, by go_num, rfl, ⟨hst, by simp, ao, co, op.length, rfl, by unfold maxLen; omega⟩, hB, hide ((unhide hr).trans hf)⟩
          case measure => simp [intOf]; omega
        · have hzb : Hid (mst (s[k].toNat : Int) 2 op al = ((stp (s[k].toNat : Int) op al).1, 2, (stp (s[k].toNat : Int) op al).2)) := hide (mst_in hz)
          have HTT := hide T; clear T
          have hcase : Hid (((s[k].toNat : Int) == 59) = false ∨ ((s[k].toNat : Int) == 59) = true ∧ ((op.length : Int) == 0) = false) := hide (by
            by_cases e : (s[k].toNat : Int) = 59
            · exact .inr ⟨by simp only [beq_iff_eq]; exact e, by rw [beq_eq_false_iff_ne]; intro e2; exact hz ⟨e, List.length_eq_zero_iff.1 (by omega)⟩⟩
            · exact .inl (by rw [beq_eq_false_iff_ne]; exact e))
          clear hz
          by_cases h0 : (stp (s[k].toNat : Int) op al).1 = 0
          · have h0' : ((stp (s[k].toNat : Int) op al).1 != 0) = false := by simp [h0]
            have H0 := hide h0; clear h0
            rcases unhide hcase with hz1 | ⟨hz1, hz2⟩
            all_goals
              go_wp2_with (first | (go_at_call 59; refine (name_any _ _).mono ?_; rintro e w' ⟨rfl, hw⟩; subst hw) | (go_at_call 108; refine (inside_any _ _ hB.size (unhide HTT) (unhide HI)).mono ?_; rintro e w' ⟨vo', va', rfl, hb', T'⟩))
              go_roundw
              case rel =>
                have hm := unhide hzb
                rw [← unhide H] at hm
                have h0 : (mst (bt s k) 2 op al).1 = 0 := by rw [hm, unhide H]; exact unhide H0
                have hf := fmF_good hlt h0
                have hst := (unhide HI).step h0
                rw [hm] at hf hst
                obtain ⟨ao', co', hv'⟩ := T'.formO
                have hl5 := hst.2.2.2.1
                rw [unhide H] at hf hst hl5
                simp only at hl5
                exact ⟨k + 1, 2, _, _, by omega, by go_num, rfl, ⟨hst, fun _ => T', ao', co', _, hv', by unfold maxLen; omega⟩, hB.trans hb', hide ((unhide hr).trans hf)⟩
              case measure => simp [intOf]; omega
          · have h0' : ((stp (s[k].toNat : Int) op al).1 != 0) = true := by simp [h0]
            have H0 := hide h0; clear h0
            rcases unhide hcase with hz1 | ⟨hz1, hz2⟩
            all_goals
              go_wp2_with (first | (go_at_call 59; refine (name_any _ _).mono ?_; rintro e w' ⟨rfl, hw⟩; subst hw) | (go_at_call 108; refine (inside_any _ _ hB.size (unhide HTT) (unhide HI)).mono ?_; rintro e w' ⟨vo', va', rfl, hb', T'⟩))
              go_ret2
              exact ⟨by rw [unhide hr, fmF_bad hlt (by rw [unhide H, unhide hzb]; exact unhide H0), unhide H, unhide hzb]; rfl, hB.trans hb'⟩
    · have hfe := fmF_end (a := a) (op := op) (al := al) hlt
      by_cases ha : a = 0
      · have ha' : (a != 0) = false := by simp [ha]
        by_cases hz : s.size = 0
        · have hz' : ((s.size : Int) == 0) = true := by simp [hz]
          rw [if_pos (.inr hz)] at hfe
          have hfe' := hide hfe; clear hfe hz ha
          go_wp2
          go_ret2
          exact ⟨by rw [unhide hr, unhide hfe']; rfl, hB⟩
        · have hz' : ((s.size : Int) == 0) = false := by rw [beq_eq_false_iff_ne]; omega
          rw [if_neg (by omega)] at hfe
          have hfe' := hide hfe; clear hfe hz ha
          go_wp2
          go_ret2
          exact ⟨by rw [unhide hr, unhide hfe']; rfl, hB⟩
      · have ha' : (a != 0) = true := by simp [ha]
        rw [if_pos (.inl ha)] at hfe
        have hfe' := hide hfe; clear hfe ha
        go_wp2
        go_ret2
        exact ⟨by rw [unhide hr, unhide hfe']; rfl, hB⟩

theorem nm_neg (s : ByteArray) (c : Int) : (decide (rl s c < 0)) = (rl s c == -1) := by
  have := rl_bd s c
  by_cases h : rl s c = -1
  · rw [h]; rfl
  · rw [beq_eq_false_iff_ne.2 h]; simp; omega

set_option maxHeartbeats 400000 in
theorem refCheck_any (s : ByteArray) (w : World) (hs : s.size ≤ maxLen) :
    Calls Tryz.prog 31 #[.string s] w fun e w' => e = .returned (.tuple #[.int .i64 (chk s).1, .int .i64 (chk s).2]) ∧ Below w.heap.size w w' := by
  have hs' := hs
  unfold maxLen at hs'
  unfold chk
  by_cases hl : 300 < s.size
  · rw [if_pos hl]
    go_enter Tryz.func31, Tryz.ntmps31
    go_wp2
    go_ret2; exact ⟨rfl, Below.refl _ _⟩
  rw [if_neg hl]
  by_cases h1 : (fmF s s.size 0 0 [] []).1 = 0
  case neg =>
    rw [if_pos h1]
    have h1' : ((fmF s s.size 0 0 [] []).1 != 0) = true := by simp [h1]
    clear h1
    go_enter Tryz.func31, Tryz.ntmps31
    go_wp2_with (go_at_call 56; refine (shape_any _ _ hs).mono ?_; rintro e w1 ⟨rfl, hb1⟩)
    go_ret2; exact ⟨rfl, hb1⟩
  case pos =>
    rw [if_neg (by simp [h1])]
    have h1' : ((fmF s s.size 0 0 [] []).1 != 0) = false := by simp [h1]
    clear h1
    by_cases h2 : (twF s s.size 0).1 = 0
    case neg =>
      rw [if_pos h2]
      have H2 := hide h2; clear h2
      go_enter Tryz.func31, Tryz.ntmps31
      go_wp2_with (go_at_call 56; refine (shape_any _ _ hs).mono ?_; rintro e w1 ⟨rfl, hb1⟩)
      go_loop [6] (fun i => ∃ k : Nat, k ≤ s.size ∧ i = .int .i64 k ∧ Hid (twF s s.size 0 = twF s (s.size - k) k)) (fun i => s.size - (intOf i).toNat)
      case atStart => exact ⟨0, Nat.zero_le _, rfl, hide rfl⟩
      case round =>
        obtain ⟨k, hk, rfl, hr⟩ := hrel
        by_cases hlt : k < s.size
        · have H := hide (bt_at s k hlt)
          cases hb : begB s k
          · have hb' := hide hb; clear hb
            go_wp2_with (first | (go_at_call 57; refine (begins_any _ _ _ hs (by omega) (by omega)).mono ?_; rintro e w' ⟨rfl, hw⟩; subst hw; rw [unhide hb']) | (go_at_call 58; refine (rule_any _ _ _ hs).mono ?_; rintro e w' ⟨rfl, hw⟩; subst hw))
            go_round
            case rel => exact ⟨k + 1, by omega, by go_num, hide ((unhide hr).trans (twF_no hlt (by rw [unhide hb']; rfl)))⟩
            case measure => simp [intOf]; omega
          · have hb' := hide hb; clear hb
            by_cases hc : (rl s (s[k].toNat : Int) != k) = true
            · go_wp2_with (first | (go_at_call 57; refine (begins_any _ _ _ hs (by omega) (by omega)).mono ?_; rintro e w' ⟨rfl, hw⟩; subst hw; rw [unhide hb']) | (go_at_call 58; refine (rule_any _ _ _ hs).mono ?_; rintro e w' ⟨rfl, hw⟩; subst hw))
              go_ret2
              exact ⟨by rw [unhide hr, twF_yes hlt (by rw [unhide hb', unhide H, hc]; rfl)]; rfl, hb1⟩
            · have hc' : (rl s (s[k].toNat : Int) != k) = false := by simpa using hc
              clear hc
              go_wp2_with (first | (go_at_call 57; refine (begins_any _ _ _ hs (by omega) (by omega)).mono ?_; rintro e w' ⟨rfl, hw⟩; subst hw; rw [unhide hb']) | (go_at_call 58; refine (rule_any _ _ _ hs).mono ?_; rintro e w' ⟨rfl, hw⟩; subst hw))
              go_round
              case rel => exact ⟨k + 1, by omega, by go_num, hide ((unhide hr).trans (twF_no hlt (by rw [unhide hb', unhide H, hc']; rfl)))⟩
              case measure => simp [intOf]; omega
        · exact absurd (by rw [unhide hr, twF_end hlt] : (twF s s.size 0).1 = 0) (unhide H2)
    case pos =>
      rw [if_neg (by simp [h2])]
      have H2 := hide h2; clear h2
      go_enter Tryz.func31, Tryz.ntmps31
      go_wp2_with (go_at_call 56; refine (shape_any _ _ hs).mono ?_; rintro e w1 ⟨rfl, hb1⟩)
      go_loop [6] (fun i => ∃ k : Nat, k ≤ s.size ∧ i = .int .i64 k ∧ Hid (twF s s.size 0 = twF s (s.size - k) k)) (fun i => s.size - (intOf i).toNat)
      case atStart => exact ⟨0, Nat.zero_le _, rfl, hide rfl⟩
      case round =>
        obtain ⟨k, hk, rfl, hr⟩ := hrel
        by_cases hlt : k < s.size
        · have H := hide (bt_at s k hlt)
          cases hb : begB s k
          · have hb' := hide hb; clear hb
            go_wp2_with (first | (go_at_call 57; refine (begins_any _ _ _ hs (by omega) (by omega)).mono ?_; rintro e w' ⟨rfl, hw⟩; subst hw; rw [unhide hb']) | (go_at_call 58; refine (rule_any _ _ _ hs).mono ?_; rintro e w' ⟨rfl, hw⟩; subst hw))
            go_round
            case rel => exact ⟨k + 1, by omega, by go_num, hide ((unhide hr).trans (twF_no hlt (by rw [unhide hb']; rfl)))⟩
            case measure => simp [intOf]; omega
          · have hb' := hide hb; clear hb
            by_cases hc : (rl s (s[k].toNat : Int) != k) = true
            · go_wp2_with (first | (go_at_call 57; refine (begins_any _ _ _ hs (by omega) (by omega)).mono ?_; rintro e w' ⟨rfl, hw⟩; subst hw; rw [unhide hb']) | (go_at_call 58; refine (rule_any _ _ _ hs).mono ?_; rintro e w' ⟨rfl, hw⟩; subst hw))
              have := unhide H2
              rw [unhide hr, twF_yes hlt (by rw [unhide hb', unhide H, hc]; rfl)] at this
              simp at this
            · have hc' : (rl s (s[k].toNat : Int) != k) = false := by simpa using hc
              clear hc
              go_wp2_with (first | (go_at_call 57; refine (begins_any _ _ _ hs (by omega) (by omega)).mono ?_; rintro e w' ⟨rfl, hw⟩; subst hw; rw [unhide hb']) | (go_at_call 58; refine (rule_any _ _ _ hs).mono ?_; rintro e w' ⟨rfl, hw⟩; subst hw))
              go_round
              case rel => exact ⟨k + 1, by omega, by go_num, hide ((unhide hr).trans (twF_no hlt (by rw [unhide hb', unhide H, hc']; rfl)))⟩
              case measure => simp [intOf]; omega
        · clear hr
          go_wp2
          go_loop [9] (fun i => ∃ k : Nat, k ≤ s.size ∧ i = .int .i64 k ∧ Hid (nmF s s.size 0 = nmF s (s.size - k) k)) (fun i => s.size - (intOf i).toNat)
          case atStart => exact ⟨0, Nat.zero_le _, rfl, hide rfl⟩
          case round =>
            obtain ⟨k, hk, rfl, hr⟩ := hrel
            by_cases hlt : k < s.size
            · have H := hide (bt_at s k hlt)
              cases hb : cN (s[k].toNat : Int)
              · have hb' := hide hb; clear hb
                go_wp2_with (first | (go_at_call 59; refine (name_any _ _).mono ?_; rintro e w' ⟨rfl, hw⟩; subst hw; rw [unhide hb']) | (go_at_call 58; refine (rule_any _ _ _ hs).mono ?_; rintro e w' ⟨rfl, hw⟩; subst hw))
                go_round
                case rel => exact ⟨k + 1, by omega, by go_num, hide ((unhide hr).trans (nmF_no hlt (by rw [unhide H, unhide hb']; rfl)))⟩
                case measure => simp [intOf]; omega
              · have hb' := hide hb; clear hb
                have hn := nm_neg s (s[k].toNat : Int)
                by_cases hc : rl s (s[k].toNat : Int) < 0
                · have hc2 : Hid ((rl s (s[k].toNat : Int) == -1) = true) := hide (by rw [← hn]; simp [hc])
                  clear hn
                  go_wp2_with (first | (go_at_call 59; refine (name_any _ _).mono ?_; rintro e w' ⟨rfl, hw⟩; subst hw; rw [unhide hb']) | (go_at_call 58; refine (rule_any _ _ _ hs).mono ?_; rintro e w' ⟨rfl, hw⟩; subst hw))
                  go_ret2
                  exact ⟨by rw [unhide hr, nmF_yes hlt (by rw [unhide H, unhide hb', unhide hc2]; rfl)]; rfl, hb1⟩
                · have hc2 : Hid ((rl s (s[k].toNat : Int) == -1) = false) := hide (by rw [← hn]; simp; omega)
                  have hc3 : decide (rl s (s[k].toNat : Int) < 0) = false := by simp; omega
                  clear hn
                  go_wp2_with (first | (go_at_call 59; refine (name_any _ _).mono ?_; rintro e w' ⟨rfl, hw⟩; subst hw; rw [unhide hb']) | (go_at_call 58; refine (rule_any _ _ _ hs).mono ?_; rintro e w' ⟨rfl, hw⟩; subst hw))
                  go_round
                  case rel => exact ⟨k + 1, by omega, by go_num, hide ((unhide hr).trans (nmF_no hlt (by rw [unhide H, unhide hb', unhide hc2]; rfl)))⟩
                  case measure => simp [intOf]; omega
            · go_wp2
              go_ret2
              exact ⟨by rw [unhide hr, nmF_end hlt]; rfl, hb1⟩
end Go.Proofs.YtnfaiaoipeholaaGreat
