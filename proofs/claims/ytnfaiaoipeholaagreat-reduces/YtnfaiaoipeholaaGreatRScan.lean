/- The reference's first rule of a name. -/
import Derived.Test.YtnfaiaoipeholaaGreatScan
import Derived.Test.YtnfaiaoipeholaaGreatRLeaf
namespace Go.Proofs.YtnfaiaoipeholaaGreat
open Go.RowKit
set_option maxHeartbeats 400000 in
theorem rule_any (s : ByteArray) (c : Int) (w : World) (hs : s.size ≤ maxLen) : Calls Tryz.prog 58 #[.string s, .int .u8 c] w fun e w' => e = .returned (.int .i64 (rl s c)) ∧ w' = w := by
  have hs' := hs
  unfold maxLen at hs'
  go_enter Tryz.func58, Tryz.ntmps58
  go_wp2
  go_loop [5] (fun i => ∃ k : Nat, k ≤ s.size ∧ i = .int .i64 k ∧ Hid (rl s c = rlF s c (s.size - k) k)) (fun i => s.size - (intOf i).toNat)
  case atStart => exact ⟨0, Nat.zero_le _, rfl, hide rfl⟩
  case round =>
    obtain ⟨k, hk, rfl, hr⟩ := hrel
    by_cases hlt : k < s.size
    · have H := hide (bt_at s k hlt)
      cases hb : begB s k
      · have hb' := hide hb; clear hb
        go_wp2_with (go_at_call 57; refine (begins_any _ _ _ hs (by omega) (by omega)).mono ?_; rintro e w' ⟨rfl, rfl⟩; rw [unhide hb'])
        go_round
        case rel => exact ⟨k + 1, by omega, by go_num, hide ((unhide hr).trans (rlF_no hlt (by rw [unhide hb']; rfl)))⟩
        case measure => simp [intOf]; omega
      · have hb' := hide hb; clear hb
        by_cases hc : ((s[k].toNat : Int) == c) = true
        · go_wp2_with (go_at_call 57; refine (begins_any _ _ _ hs (by omega) (by omega)).mono ?_; rintro e w' ⟨rfl, rfl⟩; rw [unhide hb'])
          go_ret
          exact ⟨ret_int (by rw [unhide hr, rlF_yes hlt (unhide hb') (by rw [unhide H]; exact hc)]), rfl⟩
        · have hc' : ((s[k].toNat : Int) == c) = false := by simpa using hc
          clear hc
          go_wp2_with (go_at_call 57; refine (begins_any _ _ _ hs (by omega) (by omega)).mono ?_; rintro e w' ⟨rfl, rfl⟩; rw [unhide hb'])
          go_round
          case rel => exact ⟨k + 1, by omega, by go_num, hide ((unhide hr).trans (rlF_no hlt (by rw [unhide H, hc']; simp)))⟩
          case measure => simp [intOf]; omega
    · go_wp2
      go_ret
      exact ⟨ret_int (by rw [unhide hr, rlF_end hlt]), rfl⟩

end Go.Proofs.YtnfaiaoipeholaaGreat
