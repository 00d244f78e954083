/- What Recalled rests on. -/
import Derived.Test.YtnfaiaoipeholaaWnKMade
import Derived.Test.YtnfaiaoipeholaaWnRec
namespace Go.Proofs.Ytnfaiaoipeholaa
open Go.RowKit
theorem khead_make : mk ⟨#[83, 61, 123, 97, 124, 66, 125, 91, 99, 93, 59, 66, 61, 60, 98, 62, 59]⟩ ⟨#[50, 48, 49, 51, 49, 52, 49]⟩ 2 2 = (⟨#[83, 40, 48, 123, 48, 97, 44, 49, 66, 40, 48, 60, 48, 98, 44, 48, 98, 62, 41, 125, 91, 48, 99, 93, 41]⟩, 0) := by decide +kernel
theorem khead_height : hgt ⟨#[83, 61, 123, 97, 124, 66, 125, 91, 99, 93, 59, 66, 61, 60, 98, 62, 59]⟩ ⟨#[83, 40, 48, 123, 48, 97, 44, 49, 66, 40, 48, 60, 48, 98, 44, 48, 98, 62, 41, 125, 91, 48, 99, 93, 41]⟩ = (2, 0) := by decide +kernel
theorem khead_check : chk ⟨#[83, 61, 97, 66, 59]⟩ = (6, 3) := by decide +kernel
theorem bnext {w w1 w2 : World} (h : Below w.heap.size w w1) (g : Below w1.heap.size w1 w2) : Below w.heap.size w w2 := h.trans (g.mono h.size)

set_option maxHeartbeats 400000 in
set_option maxRecDepth 1000000 in
theorem works_any (w : World) : Calls Try.prog 6 #[] w fun e w' => e = .returned (.bool true) ∧ Below w.heap.size w w' := by
  have hsz : (⟨#[83, 61, 123, 97, 124, 66, 125, 91, 99, 93, 59, 66, 61, 60, 98, 62, 59]⟩ : ByteArray).size ≤ maxLen := by decide +kernel
  have htz : (⟨#[50, 48, 49, 51, 49, 52, 49]⟩ : ByteArray).size ≤ maxLen := by decide +kernel
  have huz : (⟨#[83, 40, 48, 123, 48, 97, 44, 49, 66, 40, 48, 60, 48, 98, 44, 48, 98, 62, 41, 125, 91, 48, 99, 93, 41]⟩ : ByteArray).size ≤ maxLen := by decide +kernel
  have hvz : (⟨#[83, 61, 97, 66, 59]⟩ : ByteArray).size ≤ maxLen := by decide +kernel
  have h1 := hide khead_make
  have h2 := hide khead_height
  have h3 := hide khead_check
  go_enter Try.func6, Try.ntmps6
  go_wp2_with (first
    | (go_at_call 11; refine (make_any _ _ _ hsz htz).mono ?_; rw [unhide h1]; rintro e w1 ⟨rfl, hb1⟩)
    | (go_at_call 9; refine (height_any _ hsz huz).mono ?_; rw [unhide h2]; rintro e w2 ⟨rfl, hb2⟩)
    | (go_at_call 20; refine (check_any _ _ hvz).mono ?_; rw [unhide h3]; rintro e w3 ⟨rfl, hb3⟩))
  go_ret
  exact ⟨rfl, bnext (bnext hb1 hb2) hb3⟩

section
variable {s c t : ByteArray}
theorem mk_small {h m : Int} (e : (mk s c h m).2 = 0) : c.size ≤ 2000 := by
  unfold mk at e
  split at e
  · rename_i h; exact absurd e h
  · unfold mkR at e
    split at e
    · cases e
    · omega
theorem hgt_small (e : (hgt s t).2 = 0) : t.size ≤ 2000 := by
  unfold hgt at e
  split at e
  · rename_i h; exact absurd e h
  · cases hw : whole s t 0 with
    | none => rw [hw] at e; cases e
    | some n =>
      unfold whole at hw
      split at hw
      · cases hw
      · omega
/-- what is said of a tree that was made -/
structure Rcd (s T : ByteArray) (h m : Int) (n : Nat) (C D : ByteArray) : Prop where
  tz : T.size ≤ maxLen
  cz : C.size ≤ maxLen
  dz : D.size ≤ maxLen
  hh : hgt s T = ((n : Int), 0)
  n1 : 1 ≤ n
  n2 : (n : Int) ≤ h
  r1 : rcl s T h m = (C, 0)
  m1 : mk s C h m = (T, 0)
  r2 : rcl s T 9 5 = (D, 0)
  m2 : mk s D 9 5 = (T, 0)
theorem rcd {h m : Nat} (hh : 1 ≤ h ∧ h ≤ 9) (hm : 1 ≤ m ∧ m ≤ 5) (e : (mk s c h m).2 = 0) : ∃ n C D, Rcd s (mk s c h m).1 h m n C D := by
  obtain ⟨⟨n, q1, q2, q3⟩, q4, q5, q6, q7⟩ := recalled_ok hh hm e
  generalize (mk s c h m).1 = T at *
  refine ⟨n, (rcl s T h m).1, (rcl s T 9 5).1, ?_, ?_, ?_, q1, q2, by omega, ?_, q5, ?_, q7⟩
  · have := hgt_small (s := s) (t := T) (by rw [q1]); unfold maxLen; omega
  · have := mk_small (s := s) (c := (rcl s T h m).1) (h := h) (m := m) (by rw [q5]); unfold maxLen; omega
  · have := mk_small (s := s) (c := (rcl s T 9 5).1) (h := 9) (m := 5) (by rw [q7]); unfold maxLen; omega
  · rw [← q4]
  · rw [← q6]
end
theorem made_int (s : ByteArray) (ao : Option Addr) (len cap a b : Nat) (w : World) (hs : s.size ≤ maxLen) (hN : Nums w ao len) (ha : a ≤ 8) (hb : b ≤ 4) :
    Calls Try.prog 8 #[.string s, .slice ao len cap, .int .i64 (1 + (a : Int)), .int .i64 (1 + (b : Int))] w fun e w' => OutK s (1 + a) (1 + b) w e w' := by
  have h := made_any s ao len cap (1 + a) (1 + b) w hs hN (by omega) (by omega)
  rw [show ((1 + a : Nat) : Int) = 1 + (a : Int) by omega, show ((1 + b : Nat) : Int) = 1 + (b : Int) by omega] at h
  exact h
theorem outK_int {s : ByteArray} {a b : Nat} {w w' : World} {e : Ending} (ha : a ≤ 8) (hb : b ≤ 4) (h : OutK s (1 + a) (1 + b) w e w') : Below w.heap.size w w' ∧ ((∃ T n C D, Rcd s T (1 + (a : Int)) (1 + (b : Int)) n C D ∧ e = .returned (.tuple #[.string T, .bool true, .bool true])) ∨ e = .returned (.tuple #[.string ⟨#[]⟩, .bool false, .bool true])) := by
  obtain ⟨h1, ⟨c, hc, he⟩ | he⟩ := h
  · obtain ⟨n, C, D, hr⟩ := rcd (by omega) (by omega) hc
    refine ⟨h1, .inl ⟨_, n, C, D, ?_, he⟩⟩
    rw [show 1 + (a : Int) = ((1 + a : Nat) : Int) by omega, show 1 + (b : Int) = ((1 + b : Nat) : Int) by omega]
    exact hr
  · exact ⟨h1, .inr he⟩
end Go.Proofs.Ytnfaiaoipeholaa
