/- The walks of the reference's functions on single bytes. -/
import Derived.Test.YtnfaiaoipeholaaGreatLeaf
namespace Go.Proofs.YtnfaiaoipeholaaGreat
open Go.RowKit
set_option maxHeartbeats 400000 in
theorem name_any (c : Int) (w : World) : Calls Tryz.prog 59 #[.int .u8 c] w fun e w' => e = .returned (.bool (cN c)) ∧ w' = w := by
  go_enter Tryz.func59, Tryz.ntmps59
  go_wp2
  all_goals (go_ret; exact ⟨ret_bool (by simp [cN]; omega), rfl⟩)

set_option maxHeartbeats 400000 in
theorem letter_any (c : Int) (w : World) : Calls Tryz.prog 119 #[.int .u8 c] w fun e w' => e = .returned (.bool (cL c)) ∧ w' = w := by
  go_enter Tryz.func119, Tryz.ntmps119
  go_wp2
  all_goals (go_ret; exact ⟨ret_bool (by simp [cL]; omega), rfl⟩)

set_option maxHeartbeats 400000 in
theorem rclosing_any (c : Int) (w : World) : Calls Tryz.prog 115 #[.int .u8 c] w fun e w' => e = .returned (.int .u8 (cC c)) ∧ w' = w := by
  go_enter Tryz.func115, Tryz.ntmps115
  go_wp2
  all_goals (go_ret; exact ⟨ret_int (by simp_all [cC]), rfl⟩)

set_option maxHeartbeats 400000 in
theorem begins_any (s : ByteArray) (p : Int) (w : World) (hs : s.size ≤ maxLen) (h0 : 0 ≤ p) (h1 : p < s.size) : Calls Tryz.prog 57 #[.string s, .int .i64 p] w fun e w' => e = .returned (.bool (begB s p)) ∧ w' = w := by
  unfold maxLen at hs
  by_cases hp : p = 0
  · subst hp
    go_enter Tryz.func57, Tryz.ntmps57
    go_wp2
    all_goals (go_ret; exact ⟨ret_bool (by simp [begB]), rfl⟩)
  · have hpb : (p == 0) = false := by simp [hp]
    go_enter Tryz.func57, Tryz.ntmps57
    go_wp2
    all_goals (go_ret; exact ⟨ret_bool (by unfold begB; rw [hpb, bt_eq s (p - 1) (p.toNat - 1) (by omega) (by omega)]; rfl), rfl⟩)
end Go.Proofs.YtnfaiaoipeholaaGreat
