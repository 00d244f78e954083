/- The walks of the loops over a grammar's bytes: the first rule of a name; names that begin two rules, or none. -/
import Derived.Test.YtnfaiaoipeholaaLeaf
namespace Go.Proofs.Ytnfaiaoipeholaa
open Go.RowKit

theorem rlF_yes {s : ByteArray} {c : Int} {k : Nat} (h : k < s.size) (h1 : begB s k = true) (h2 : (bt s k == c) = true) : rlF s c (s.size - k) k = k := by
  obtain ⟨n, hn⟩ : ∃ n, s.size - k = n + 1 := ⟨s.size - k - 1, by omega⟩
  rw [hn]; simp only [rlF, h1, h2]; rfl
theorem rlF_no {s : ByteArray} {c : Int} {k : Nat} (h : k < s.size) (h1 : (begB s k && bt s k == c) = false) : rlF s c (s.size - k) k = rlF s c (s.size - (k + 1)) (k + 1) := by
  obtain ⟨n, hn⟩ : ∃ n, s.size - k = n + 1 := ⟨s.size - k - 1, by omega⟩
  rw [hn, show s.size - (k + 1) = n by omega]; simp only [rlF, h1]; rfl
theorem twF_yes {s : ByteArray} {k : Nat} (h : k < s.size) (h1 : (begB s k && rl s (bt s k) != k) = true) : twF s (s.size - k) k = (5, (k : Int)) := by
  obtain ⟨n, hn⟩ : ∃ n, s.size - k = n + 1 := ⟨s.size - k - 1, by omega⟩
  rw [hn]; simp only [twF, h1]; rfl
theorem twF_no {s : ByteArray} {k : Nat} (h : k < s.size) (h1 : (begB s k && rl s (bt s k) != k) = false) : twF s (s.size - k) k = twF s (s.size - (k + 1)) (k + 1) := by
  obtain ⟨n, hn⟩ : ∃ n, s.size - k = n + 1 := ⟨s.size - k - 1, by omega⟩
  rw [hn, show s.size - (k + 1) = n by omega]; simp only [twF, h1]; rfl
theorem nmF_yes {s : ByteArray} {k : Nat} (h : k < s.size) (h1 : (cN (bt s k) && rl s (bt s k) == -1) = true) : nmF s (s.size - k) k = (6, (k : Int)) := by
  obtain ⟨n, hn⟩ : ∃ n, s.size - k = n + 1 := ⟨s.size - k - 1, by omega⟩
  rw [hn]; simp only [nmF, h1]; rfl
theorem nmF_no {s : ByteArray} {k : Nat} (h : k < s.size) (h1 : (cN (bt s k) && rl s (bt s k) == -1) = false) : nmF s (s.size - k) k = nmF s (s.size - (k + 1)) (k + 1) := by
  obtain ⟨n, hn⟩ : ∃ n, s.size - k = n + 1 := ⟨s.size - k - 1, by omega⟩
  rw [hn, show s.size - (k + 1) = n by omega]; simp only [nmF, h1]; rfl
theorem rlF_end {s : ByteArray} {c : Int} {k : Nat} (h : ¬ k < s.size) : rlF s c (s.size - k) k = -1 := by rw [show s.size - k = 0 by omega]; rfl
theorem twF_end {s : ByteArray} {k : Nat} (h : ¬ k < s.size) : twF s (s.size - k) k = (0, 0) := by rw [show s.size - k = 0 by omega]; rfl
theorem nmF_end {s : ByteArray} {k : Nat} (h : ¬ k < s.size) : nmF s (s.size - k) k = (0, 0) := by rw [show s.size - k = 0 by omega]; rfl

set_option maxHeartbeats 400000 in
theorem firstRule_any (s : ByteArray) (c : Int) (w : World) (hs : s.size ≤ maxLen) : Calls Try.prog 50 #[.string s, .int .u8 c] w fun e w' => e = .returned (.int .i64 (rl s c)) ∧ w' = w := by
  have hs' := hs
  unfold maxLen at hs'
  go_enter Try.func50, Try.ntmps50
  go_wp2
  go_loop [5] (fun i => ∃ k : Nat, k ≤ s.size ∧ i = .int .i64 k ∧ Hid (rl s c = rlF s c (s.size - k) k)) (fun i => s.size - (intOf i).toNat)
  case atStart => exact ⟨0, Nat.zero_le _, rfl, hide rfl⟩
  case round =>
    obtain ⟨k, hk, rfl, hr⟩ := hrel
    by_cases hlt : k < s.size
    · have H := hide (bt_at s k hlt)
      by_cases hc : ((s[k].toNat : Int) == c) = true
      · cases hb : begB s k
        · have hb' := hide hb; clear hb
          go_wp2_with (go_at_call 49; refine (beginsRule_any _ _ _ hs (by omega) (by omega)).mono ?_; rintro e w' ⟨rfl, rfl⟩; rw [unhide hb'])
          go_round
          case rel => exact ⟨k + 1, by omega, by go_num, hide ((unhide hr).trans (rlF_no hlt (by rw [unhide hb']; rfl)))⟩
          case measure => simp [intOf]; omega
        · have hb' := hide hb; clear hb
          go_wp2_with (go_at_call 49; refine (beginsRule_any _ _ _ hs (by omega) (by omega)).mono ?_; rintro e w' ⟨rfl, rfl⟩; rw [unhide hb'])
          go_ret
          exact ⟨ret_int (by rw [unhide hr, rlF_yes hlt (unhide hb') (by rw [unhide H]; exact hc)]), rfl⟩
      · have hc' : ((s[k].toNat : Int) == c) = false := by simpa using hc
        clear hc
        go_wp2
        go_round
        case rel => exact ⟨k + 1, by omega, by go_num, hide ((unhide hr).trans (rlF_no hlt (by rw [unhide H, hc']; simp)))⟩
        case measure => simp [intOf]; omega
    · go_wp2
      go_ret
      exact ⟨ret_int (by rw [unhide hr, rlF_end hlt]), rfl⟩

set_option maxHeartbeats 400000 in
theorem checkTwice_any (s : ByteArray) (w : World) (hs : s.size ≤ maxLen) : Calls Try.prog 28 #[.string s] w fun e w' => e = .returned (.tuple #[.int .i64 (twF s s.size 0).1, .int .i64 (twF s s.size 0).2]) ∧ w' = w := by
  have hs' := hs
  unfold maxLen at hs'
  go_enter Try.func28, Try.ntmps28
  go_wp2
  go_loop [4] (fun i => ∃ k : Nat, k ≤ s.size ∧ i = .int .i64 k ∧ Hid (twF s s.size 0 = twF s (s.size - k) k)) (fun i => s.size - (intOf i).toNat)
  case atStart => exact ⟨0, Nat.zero_le _, rfl, hide rfl⟩
  case round =>
    obtain ⟨k, hk, rfl, hr⟩ := hrel
    by_cases hlt : k < s.size
    · have H := hide (bt_at s k hlt)
      cases hb : begB s k
      · have hb' := hide hb; clear hb
        go_wp2_with (go_at_call 49; refine (beginsRule_any _ _ _ hs (by omega) (by omega)).mono ?_; rintro e w' ⟨rfl, rfl⟩; rw [unhide hb'])
        go_round
        case rel => exact ⟨k + 1, by omega, by go_num, hide ((unhide hr).trans (twF_no hlt (by rw [unhide hb']; rfl)))⟩
        case measure => simp [intOf]; omega
      · have hb' := hide hb; clear hb
        by_cases hc : (rl s (s[k].toNat : Int) != k) = true
        · go_wp2_with (first | (go_at_call 49; refine (beginsRule_any _ _ _ hs (by omega) (by omega)).mono ?_; rintro e w' ⟨rfl, rfl⟩; rw [unhide hb']) | (go_at_call 50; refine (firstRule_any _ _ _ hs).mono ?_; rintro e w' ⟨rfl, rfl⟩))
          go_ret2
          exact ⟨by rw [unhide hr, twF_yes hlt (by rw [unhide hb', unhide H, hc]; rfl)]; rfl, rfl⟩
        · have hc' : (rl s (s[k].toNat : Int) != k) = false := by simpa using hc
          clear hc
          go_wp2_with (first | (go_at_call 49; refine (beginsRule_any _ _ _ hs (by omega) (by omega)).mono ?_; rintro e w' ⟨rfl, rfl⟩; rw [unhide hb']) | (go_at_call 50; refine (firstRule_any _ _ _ hs).mono ?_; rintro e w' ⟨rfl, rfl⟩))
          go_round
          case rel => exact ⟨k + 1, by omega, by go_num, hide ((unhide hr).trans (twF_no hlt (by rw [unhide hb', unhide H, hc']; rfl)))⟩
          case measure => simp [intOf]; omega
    · go_wp2
      go_ret2
      exact ⟨by rw [unhide hr, twF_end hlt]; rfl, rfl⟩

set_option maxHeartbeats 400000 in
theorem checkNames_any (s : ByteArray) (w : World) (hs : s.size ≤ maxLen) : Calls Try.prog 29 #[.string s] w fun e w' => e = .returned (.tuple #[.int .i64 (nmF s s.size 0).1, .int .i64 (nmF s s.size 0).2]) ∧ w' = w := by
  have hs' := hs
  unfold maxLen at hs'
  go_enter Try.func29, Try.ntmps29
  go_wp2
  go_loop [4] (fun i => ∃ k : Nat, k ≤ s.size ∧ i = .int .i64 k ∧ Hid (nmF s s.size 0 = nmF s (s.size - k) k)) (fun i => s.size - (intOf i).toNat)
  case atStart => exact ⟨0, Nat.zero_le _, rfl, hide rfl⟩
  case round =>
    obtain ⟨k, hk, rfl, hr⟩ := hrel
    by_cases hlt : k < s.size
    · have H := hide (bt_at s k hlt)
      cases hb : cN (s[k].toNat : Int)
      · have hb' := hide hb; clear hb
        go_wp2_with (go_at_call 51; refine (isName_any _ _).mono ?_; rintro e w' ⟨rfl, rfl⟩; rw [unhide hb'])
        go_round
        case rel => exact ⟨k + 1, by omega, by go_num, hide ((unhide hr).trans (nmF_no hlt (by rw [unhide H, unhide hb']; rfl)))⟩
        case measure => simp [intOf]; omega
      · have hb' := hide hb; clear hb
        by_cases hc : (rl s (s[k].toNat : Int) == -1) = true
        · go_wp2_with (first | (go_at_call 51; refine (isName_any _ _).mono ?_; rintro e w' ⟨rfl, rfl⟩; rw [unhide hb']) | (go_at_call 50; refine (firstRule_any _ _ _ hs).mono ?_; rintro e w' ⟨rfl, rfl⟩))
          go_ret2
          exact ⟨by rw [unhide hr, nmF_yes hlt (by rw [unhide H, unhide hb', hc]; rfl)]; rfl, rfl⟩
        · have hc' : (rl s (s[k].toNat : Int) == -1) = false := by simpa using hc
          clear hc
          go_wp2_with (first | (go_at_call 51; refine (isName_any _ _).mono ?_; rintro e w' ⟨rfl, rfl⟩; rw [unhide hb']) | (go_at_call 50; refine (firstRule_any _ _ _ hs).mono ?_; rintro e w' ⟨rfl, rfl⟩))
          go_round
          case rel => exact ⟨k + 1, by omega, by go_num, hide ((unhide hr).trans (nmF_no hlt (by rw [unhide H, unhide hb', hc']; rfl)))⟩
          case measure => simp [intOf]; omega
    · go_wp2
      go_ret2
      exact ⟨by rw [unhide hr, nmF_end hlt]; rfl, rfl⟩
end Go.Proofs.Ytnfaiaoipeholaa
