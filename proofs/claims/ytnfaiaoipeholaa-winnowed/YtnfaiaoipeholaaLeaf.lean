/- The walks of the functions on single bytes, and on places of a grammar. -/
import Derived.Test.YtnfaiaoipeholaaRows
import Derived.Test.YtnfaiaoipeholaaMath
import Derived.WalkKit
import Derived.WalkSpells
import Derived.WalkLawsBesides
namespace Go.Proofs.Ytnfaiaoipeholaa
open Go.RowKit
theorem hide {p : Prop} (h : p) : Hid p := h
theorem unhide {p : Prop} (h : Hid p) : p := h
theorem ret_bool {a b : Bool} (h : a = b) : Ending.returned (.bool a) = .returned (.bool b) := by rw [h]
theorem ret_int {k : IntKind} {a b : Int} (h : a = b) : Ending.returned (.int k a) = .returned (.int k b) := by rw [h]
theorem ret_two {k l : IntKind} {a b c d : Int} (h : a = b) (g : c = d) : Ending.returned (.tuple #[.int k a, .int l c]) = .returned (.tuple #[.int k b, .int l d]) := by rw [h, g]

set_option maxHeartbeats 400000 in
theorem isName_any (c : Int) (w : World) : Calls Try.prog 51 #[.int .u8 c] w fun e w' => e = .returned (.bool (cN c)) ∧ w' = w := by
  go_enter Try.func51, Try.ntmps51
  go_wp2
  all_goals (go_ret; exact ⟨ret_bool (by simp [cN]; omega), rfl⟩)

set_option maxHeartbeats 400000 in
theorem isLetter_any (c : Int) (w : World) : Calls Try.prog 67 #[.int .u8 c] w fun e w' => e = .returned (.bool (cL c)) ∧ w' = w := by
  go_enter Try.func67, Try.ntmps67
  go_wp2
  all_goals (go_ret; exact ⟨ret_bool (by simp [cL]; omega), rfl⟩)

set_option maxHeartbeats 400000 in
theorem closing_any (c : Int) (w : World) : Calls Try.prog 78 #[.int .u8 c] w fun e w' => e = .returned (.int .u8 (cC c)) ∧ w' = w := by
  go_enter Try.func78, Try.ntmps78
  go_wp2
  all_goals (go_ret; exact ⟨ret_int (by simp_all [cC]), rfl⟩)

set_option maxHeartbeats 400000 in
theorem isOpening_any (c : Int) (w : World) : Calls Try.prog 55 #[.int .u8 c] w fun e w' => e = .returned (.bool (cO c)) ∧ w' = w := by
  go_enter Try.func55, Try.ntmps55
  go_wp2_with (go_at_call 78; refine (closing_any _ _).mono ?_; rintro e w' ⟨rfl, rfl⟩)
  all_goals (go_ret; exact ⟨ret_bool rfl, rfl⟩)

set_option maxHeartbeats 400000 in
theorem isClosing_any (c : Int) (w : World) : Calls Try.prog 92 #[.int .u8 c] w fun e w' => e = .returned (.bool (cX c)) ∧ w' = w := by
  go_enter Try.func92, Try.ntmps92
  go_wp2
  all_goals (go_ret; exact ⟨ret_bool (by simp_all [cX]), rfl⟩)

set_option maxHeartbeats 400000 in
theorem at_any (s : ByteArray) (p : Int) (w : World) (_hs : s.size ≤ maxLen) : Calls Try.prog 52 #[.string s, .int .i64 p] w fun e w' => e = .returned (.int .u8 (bt s p)) ∧ w' = w := by
  unfold maxLen at _hs
  go_enter Try.func52, Try.ntmps52
  go_wp2
  all_goals go_ret
  · exact ⟨ret_int (by rw [bt_out _ _ (by omega)]), rfl⟩
  · exact ⟨ret_int (by unfold bt; rw [dif_pos (by assumption)]), rfl⟩
  · exact ⟨ret_int (by rw [bt_out _ _ (by omega)]), rfl⟩

set_option maxHeartbeats 400000 in
theorem beginsRule_any (s : ByteArray) (p : Int) (w : World) (hs : s.size ≤ maxLen) (h0 : 0 ≤ p) (h1 : p ≤ s.size) : Calls Try.prog 49 #[.string s, .int .i64 p] w fun e w' => e = .returned (.bool (begB s p)) ∧ w' = w := by
  have hs' := hs
  unfold maxLen at hs'
  by_cases hp : p = 0
  · subst hp
    go_enter Try.func49, Try.ntmps49
    go_wp2
    all_goals (go_ret; exact ⟨ret_bool (by simp [begB]), rfl⟩)
  · have hpb : (p == 0) = false := by simp [hp]
    go_enter Try.func49, Try.ntmps49
    go_wp2_with (go_at_call 52; refine (at_any _ _ _ hs).mono ?_; rintro e w' ⟨rfl, rfl⟩)
    go_ret; exact ⟨ret_bool (by simp [begB, hpb]), rfl⟩

end Go.Proofs.Ytnfaiaoipeholaa
