/- The walks of the functions on single bytes, and on places of a grammar. -/
import Derived.Test.YtnfaiaoipeholaaGreatRows
import Derived.Test.YtnfaiaoipeholaaGreatMath
import Derived.WalkKit
import Derived.WalkSpells
import Derived.WalkLawsBesides
namespace Go.Proofs.YtnfaiaoipeholaaGreat
open Go.RowKit
theorem hide {p : Prop} (h : p) : Hid p := h
theorem unhide {p : Prop} (h : Hid p) : p := h
theorem ret_bool {a b : Bool} (h : a = b) : Ending.returned (.bool a) = .returned (.bool b) := by rw [h]
theorem ret_int {k : IntKind} {a b : Int} (h : a = b) : Ending.returned (.int k a) = .returned (.int k b) := by rw [h]
theorem ret_two {k l : IntKind} {a b c d : Int} (h : a = b) (g : c = d) : Ending.returned (.tuple #[.int k a, .int l c]) = .returned (.tuple #[.int k b, .int l d]) := by rw [h, g]

set_option maxHeartbeats 400000 in
theorem isName_any (c : Int) (w : World) : Calls Tryz.prog 76 #[.int .u8 c] w fun e w' => e = .returned (.bool (cN c)) ∧ w' = w := by
  go_enter Tryz.func76, Tryz.ntmps76
  go_wp2
  all_goals (go_ret; exact ⟨ret_bool (by simp [cN]; omega), rfl⟩)

set_option maxHeartbeats 400000 in
theorem isLetter_any (c : Int) (w : World) : Calls Tryz.prog 92 #[.int .u8 c] w fun e w' => e = .returned (.bool (cL c)) ∧ w' = w := by
  go_enter Tryz.func92, Tryz.ntmps92
  go_wp2
  all_goals (go_ret; exact ⟨ret_bool (by simp [cL]; omega), rfl⟩)

set_option maxHeartbeats 400000 in
theorem closing_any (c : Int) (w : World) : Calls Tryz.prog 103 #[.int .u8 c] w fun e w' => e = .returned (.int .u8 (cC c)) ∧ w' = w := by
  go_enter Tryz.func103, Tryz.ntmps103
  go_wp2
  all_goals (go_ret; exact ⟨ret_int (by simp_all [cC]), rfl⟩)

set_option maxHeartbeats 400000 in
theorem isOpening_any (c : Int) (w : World) : Calls Tryz.prog 80 #[.int .u8 c] w fun e w' => e = .returned (.bool (cO c)) ∧ w' = w := by
  go_enter Tryz.func80, Tryz.ntmps80
  go_wp2_with (go_at_call 103; refine (closing_any _ _).mono ?_; rintro e w' ⟨rfl, rfl⟩)
  all_goals (go_ret; exact ⟨ret_bool rfl, rfl⟩)

set_option maxHeartbeats 400000 in
theorem isClosing_any (c : Int) (w : World) : Calls Tryz.prog 129 #[.int .u8 c] w fun e w' => e = .returned (.bool (cX c)) ∧ w' = w := by
  go_enter Tryz.func129, Tryz.ntmps129
  go_wp2
  all_goals (go_ret; exact ⟨ret_bool (by simp_all [cX]), rfl⟩)

set_option maxHeartbeats 400000 in
theorem at_any (s : ByteArray) (p : Int) (w : World) (_hs : s.size ≤ maxLen) : Calls Tryz.prog 77 #[.string s, .int .i64 p] w fun e w' => e = .returned (.int .u8 (bt s p)) ∧ w' = w := by
  unfold maxLen at _hs
  go_enter Tryz.func77, Tryz.ntmps77
  go_wp2
  all_goals go_ret
  · exact ⟨ret_int (by rw [bt_out _ _ (by omega)]), rfl⟩
  · exact ⟨ret_int (by unfold bt; rw [dif_pos (by assumption)]), rfl⟩
  · exact ⟨ret_int (by rw [bt_out _ _ (by omega)]), rfl⟩

set_option maxHeartbeats 400000 in
theorem beginsRule_any (s : ByteArray) (p : Int) (w : World) (hs : s.size ≤ maxLen) (h0 : 0 ≤ p) (h1 : p ≤ s.size) : Calls Tryz.prog 74 #[.string s, .int .i64 p] w fun e w' => e = .returned (.bool (begB s p)) ∧ w' = w := by
  have hs' := hs
  unfold maxLen at hs'
  by_cases hp : p = 0
  · subst hp
    go_enter Tryz.func74, Tryz.ntmps74
    go_wp2
    all_goals (go_ret; exact ⟨ret_bool (by simp [begB]), rfl⟩)
  · have hpb : (p == 0) = false := by simp [hp]
    go_enter Tryz.func74, Tryz.ntmps74
    go_wp2_with (go_at_call 77; refine (at_any _ _ _ hs).mono ?_; rintro e w' ⟨rfl, rfl⟩)
    go_ret; exact ⟨ret_bool (by simp [begB, hpb]), rfl⟩

end Go.Proofs.YtnfaiaoipeholaaGreat
