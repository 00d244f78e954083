/- The law Wrapped, walked. -/
import Derived.Test.YtnfaiaoipeholaaGreatWpKWord
import Derived.Test.YtnfaiaoipeholaaGreatWpPsr
import Derived.Test.YtnfaiaoipeholaaGreatWpAhs
namespace Go.Proofs.YtnfaiaoipeholaaGreat
open Go.RowKit
/-- a name that stands nowhere, or 0 -/
def Frsh (s : ByteArray) (f : Int) : Prop := f = 0 ∨ (cN f = true ∧ ∀ i : Nat, bt s i ≠ f)
set_option maxHeartbeats 1000000 in
set_option maxRecDepth 1000000 in
theorem fresh_any (s : ByteArray) (w : World) (hs : s.size ≤ maxLen) : Calls Tryz.prog 15 #[.string s] w fun e w' => (∃ f, e = .returned (.int .u8 f) ∧ Frsh s f) ∧ w' = w := by
  have hs' := hs
  unfold maxLen at hs'
  generalize hPost : (fun (e : Ending) (w' : World) => (∃ f, e = .returned (.int .u8 f) ∧ Frsh s f) ∧ w' = w) = Post
  have HP := hide hPost
  clear hPost
  go_enter Tryz.func15, Tryz.ntmps15
  go_wp2
  go_loop [3] (fun cv => ∃ c : Nat, cv = .int .u8 c ∧ 65 ≤ c ∧ c ≤ 91) (fun cv => 91 - (intOf cv).toNat)
  case atStart => exact ⟨65, rfl, by omega, by omega⟩
  case round =>
    obtain ⟨c, rfl, hc1, hc2⟩ := hrel
    by_cases hlt : c ≤ 90
    · go_wp2
      go_loop [4, 5] (fun bv iv => ∃ (b : Bool) (k : Nat), bv = .bool b ∧ iv = .int .i64 k ∧ k ≤ s.size ∧ Hid (b = false → ∀ j : Nat, j < k → bt s j ≠ c)) (fun _ iv => s.size - (intOf iv).toNat)
      case atStart => exact ⟨false, 0, rfl, rfl, Nat.zero_le _, hide (fun _ j hj => by omega)⟩
      case round =>
        obtain ⟨b, k, rfl, rfl, hk, hI⟩ := hrel
        by_cases hkl : k < s.size
        · have hbt := bt_at s k hkl
          cases b
          · have hI0 := hide (unhide hI rfl)
            generalize hx : ((s[k].toNat : Nat) : Int) = x at *
            have HX := hide hbt
            clear hI hbt
            by_cases hxc : x = c
            · have hxc' : (x == (c : Int)) = true := by simp [hxc]
              clear hxc
              go_wp2
              exact ⟨⟨true, k + 1, by first | rfl | simp [hxc'], by go_num, by omega, hide (fun h => by cases h)⟩, by simp [intOf]; omega⟩
            · have hxc' : (x == (c : Int)) = false := by simp [hxc]
              have HN : Hid (∀ j : Nat, j < k + 1 → bt s j ≠ c) := hide (fun j hj => by
                by_cases e : j = k
                · subst e; rw [unhide HX]; exact hxc
                · exact unhide hI0 j (by omega))
              clear hxc hI0 HX
              go_wp2
              exact ⟨⟨false, k + 1, by first | rfl | simp [hxc'], by go_num, by omega, hide (fun _ => unhide HN)⟩, by simp [intOf]; omega⟩
          · clear hI hbt
            go_wp2
            exact ⟨⟨true, k + 1, rfl, by go_num, by omega, hide (fun h => by cases h)⟩, by simp [intOf]; omega⟩
        · cases b
          · have HN : Hid (Frsh s c) := hide (.inr ⟨by simp [cN]; omega, fun i => by
              by_cases hi : i < s.size
              · exact unhide hI rfl i (by omega)
              · rw [bt_out s i (by omega)]; omega⟩)
            clear hI
            go_wp2
            rw [← unhide HP]
            exact ⟨⟨_, rfl, unhide HN⟩, rfl⟩
          · clear hI
            go_wp2
            exact ⟨⟨c + 1, by go_num, by omega, by omega⟩, by simp [intOf]; omega⟩
    · go_wp2
      rw [← unhide HP]
      exact ⟨⟨0, rfl, .inl rfl⟩, rfl⟩
end Go.Proofs.YtnfaiaoipeholaaGreat
