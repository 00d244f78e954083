/- The walks of the functions on places of a grammar. -/
import Derived.Test.YthpafmkhhcidbaaScan
import Derived.Test.YthpafmkhhcidbaaGoodMath
namespace Go.Proofs.Ythpafmkhhcidbaa
open Go.RowKit

set_option maxHeartbeats 400000 in
theorem isFactor_any (s : ByteArray) (p : Int) (f : Nat) (w : World) (hs : s.size ≤ 300) (hp : p = f) :
    Calls Try.prog 90 #[.string s, .int .i64 p] w fun e w' => e = .returned (.bool (isF s f)) ∧ w' = w := by
  subst hp
  have hs' : s.size ≤ maxLen := by unfold maxLen; omega
  cases h1 : cL (bt s f)
  · have h1' := hide h1
    cases h2 : cN (bt s f)
    · have h2' := hide h2
      have hi : isF s f = cO (bt s f) := by simp [isF, h1, h2]
      rw [hi]
      clear h1 h2 hi
      go_enter Try.func90, Try.ntmps90
      go_wp2_with (first | (go_at_call 64; refine (at_any _ _ _ hs').mono ?_; rintro e w' ⟨rfl, rfl⟩) | (go_at_call 84; refine (isLetter_any _ _).mono ?_; rintro e w' ⟨rfl, rfl⟩; rw [unhide h1']) | (go_at_call 63; refine (isName_any _ _).mono ?_; rintro e w' ⟨rfl, rfl⟩; rw [unhide h2']) | (go_at_call 78; refine (isOpening_any _ _).mono ?_; rintro e w' ⟨rfl, rfl⟩))
      go_ret; exact ⟨rfl, rfl⟩
    · have h2' := hide h2
      have hi : isF s f = true := by simp [isF, h2]
      rw [hi]
      clear h1 h2 hi
      go_enter Try.func90, Try.ntmps90
      go_wp2_with (first | (go_at_call 64; refine (at_any _ _ _ hs').mono ?_; rintro e w' ⟨rfl, rfl⟩) | (go_at_call 84; refine (isLetter_any _ _).mono ?_; rintro e w' ⟨rfl, rfl⟩; rw [unhide h1']) | (go_at_call 63; refine (isName_any _ _).mono ?_; rintro e w' ⟨rfl, rfl⟩; rw [unhide h2']))
      go_ret; exact ⟨rfl, rfl⟩
  · have h1' := hide h1
    have hi : isF s f = true := by simp [isF, h1]
    rw [hi]
    clear h1 hi
    go_enter Try.func90, Try.ntmps90
    go_wp2_with (first | (go_at_call 64; refine (at_any _ _ _ hs').mono ?_; rintro e w' ⟨rfl, rfl⟩) | (go_at_call 84; refine (isLetter_any _ _).mono ?_; rintro e w' ⟨rfl, rfl⟩; rw [unhide h1']))
    go_ret; exact ⟨rfl, rfl⟩

set_option maxHeartbeats 400000 in
theorem behind_any (s : ByteArray) (p : Int) (f : Nat) (w : World) (hs : s.size ≤ 300) (hp : p = f) (hf : f ≤ 300) :
    Calls Try.prog 93 #[.string s, .int .i64 p] w fun e w' => e = .returned (.int .i64 (bh s f)) ∧ w' = w := by
  subst hp
  have hs' : s.size ≤ maxLen := by unfold maxLen; omega
  go_enter Try.func93, Try.ntmps93
  go_wp2
  go_loop [5, 6] (fun d i => ∃ (k : Nat) (dd : Int), k ≤ 300 ∧ i = .int .i64 k ∧ d = .int .i64 dd ∧ -(k : Int) ≤ dd ∧ dd ≤ k ∧ Hid (bh s f = bhD s k dd)) (fun _ i => s.size - (intOf i).toNat)
  case atStart => exact ⟨f, 0, by omega, rfl, rfl, by omega, by omega, hide rfl⟩
  case round =>
    obtain ⟨k, dd, hk, rfl, rfl, hd1, hd2, hr⟩ := hrel
    by_cases hlt : k < s.size
    · cases h1 : cO (bt s k)
      · cases h2 : cX (bt s k)
        · have HD : Hid (dpt (bt s k) dd = dd) := hide (by simp [dpt, h1, h2])
          have h1' := hide h1; have h2' := hide h2; clear h1 h2
          by_cases hz : dd = 0
          · have hz' : (dd == 0) = true := by simp only [beq_iff_eq]; exact hz
            have HZ := hide hz; clear hz
            go_wp2_with (first | (go_at_call 64; refine (at_any _ _ _ hs').mono ?_; rintro e w' ⟨rfl, rfl⟩) | (go_at_call 78; refine (isOpening_any _ _).mono ?_; rintro e w' ⟨rfl, rfl⟩; rw [unhide h1']) | (go_at_call 80; refine (isClosing_any _ _).mono ?_; rintro e w' ⟨rfl, rfl⟩; rw [unhide h2']))
            go_ret
            exact ⟨ret_int (by rw [unhide hr, bhD_step hlt, unhide HD, if_pos (unhide HZ)]; go_num), rfl⟩
          · have hz' : (dd == 0) = false := by simp only [beq_eq_false_iff_ne]; exact hz
            have HZ := hide hz; clear hz
            go_wp2_with (first | (go_at_call 64; refine (at_any _ _ _ hs').mono ?_; rintro e w' ⟨rfl, rfl⟩) | (go_at_call 78; refine (isOpening_any _ _).mono ?_; rintro e w' ⟨rfl, rfl⟩; rw [unhide h1']) | (go_at_call 80; refine (isClosing_any _ _).mono ?_; rintro e w' ⟨rfl, rfl⟩; rw [unhide h2']))
            go_round
            case rel => exact ⟨k + 1, dd, by omega, by go_num, rfl, by omega, by omega, hide ((unhide hr).trans (by rw [bhD_step hlt, unhide HD, if_neg (unhide HZ)]))⟩
            case measure => simp [intOf]; omega
        · have HD : Hid (dpt (bt s k) dd = dd - 1) := hide (by simp [dpt, h1, h2])
          have h1' := hide h1; have h2' := hide h2; clear h1 h2
          by_cases hz : dd - 1 = 0
          · have hz' : (dd - 1 == 0) = true := by simp only [beq_iff_eq]; exact hz
            have HZ := hide hz; clear hz
            go_wp2_with (first | (go_at_call 64; refine (at_any _ _ _ hs').mono ?_; rintro e w' ⟨rfl, rfl⟩) | (go_at_call 78; refine (isOpening_any _ _).mono ?_; rintro e w' ⟨rfl, rfl⟩; rw [unhide h1']) | (go_at_call 80; refine (isClosing_any _ _).mono ?_; rintro e w' ⟨rfl, rfl⟩; rw [unhide h2']))
            go_ret
            exact ⟨ret_int (by rw [unhide hr, bhD_step hlt, unhide HD, if_pos (unhide HZ)]; go_num), rfl⟩
          · have hz' : (dd - 1 == 0) = false := by simp only [beq_eq_false_iff_ne]; exact hz
            have HZ := hide hz; clear hz
            go_wp2_with (first | (go_at_call 64; refine (at_any _ _ _ hs').mono ?_; rintro e w' ⟨rfl, rfl⟩) | (go_at_call 78; refine (isOpening_any _ _).mono ?_; rintro e w' ⟨rfl, rfl⟩; rw [unhide h1']) | (go_at_call 80; refine (isClosing_any _ _).mono ?_; rintro e w' ⟨rfl, rfl⟩; rw [unhide h2']))
            go_round
            case rel => exact ⟨k + 1, dd - 1, by omega, by go_num, rfl, by omega, by omega, hide ((unhide hr).trans (by rw [bhD_step hlt, unhide HD, if_neg (unhide HZ)]))⟩
            case measure => simp [intOf]; omega
      · have h2 : cX (bt s k) = false := by
          cases e : cX (bt s k)
          · rfl
          · have := cX_vals e; have := cO_vals h1; omega
        have HD : Hid (dpt (bt s k) dd = dd + 1) := hide (by simp [dpt, h1])
        have h1' := hide h1; have h2' := hide h2; clear h1 h2
        by_cases hz : dd + 1 = 0
        · have hz' : (dd + 1 == 0) = true := by simp only [beq_iff_eq]; exact hz
          have HZ := hide hz; clear hz
          go_wp2_with (first | (go_at_call 64; refine (at_any _ _ _ hs').mono ?_; rintro e w' ⟨rfl, rfl⟩) | (go_at_call 78; refine (isOpening_any _ _).mono ?_; rintro e w' ⟨rfl, rfl⟩; rw [unhide h1']) | (go_at_call 80; refine (isClosing_any _ _).mono ?_; rintro e w' ⟨rfl, rfl⟩; rw [unhide h2']))
          go_ret
          exact ⟨ret_int (by rw [unhide hr, bhD_step hlt, unhide HD, if_pos (unhide HZ)]; go_num), rfl⟩
        · have hz' : (dd + 1 == 0) = false := by simp only [beq_eq_false_iff_ne]; exact hz
          have HZ := hide hz; clear hz
          go_wp2_with (first | (go_at_call 64; refine (at_any _ _ _ hs').mono ?_; rintro e w' ⟨rfl, rfl⟩) | (go_at_call 78; refine (isOpening_any _ _).mono ?_; rintro e w' ⟨rfl, rfl⟩; rw [unhide h1']) | (go_at_call 80; refine (isClosing_any _ _).mono ?_; rintro e w' ⟨rfl, rfl⟩; rw [unhide h2']))
          go_round
          case rel => exact ⟨k + 1, dd + 1, by omega, by go_num, rfl, by omega, by omega, hide ((unhide hr).trans (by rw [bhD_step hlt, unhide HD, if_neg (unhide HZ)]))⟩
          case measure => simp [intOf]; omega
    · go_wp2
      go_ret
      exact ⟨ret_int (by rw [unhide hr, bhD_end hlt]), rfl⟩

set_option maxHeartbeats 400000 in
theorem endOfAlternative_any (s : ByteArray) (p : Int) (f : Nat) (w : World) (hs : s.size ≤ 300) (hp : p = f) (hf : f ≤ 400) :
    Calls Try.prog 89 #[.string s, .int .i64 p] w fun e w' => e = .returned (.int .i64 ((fe s f).2 : Nat)) ∧ w' = w := by
  subst hp
  go_enter Try.func89, Try.ntmps89
  go_wp2
  go_loop [1] (fun i => ∃ (k : Nat), k ≤ 400 ∧ i = .int .i64 k ∧ Hid ((fe s f).2 = (fe s k).2)) (fun i => s.size - (intOf i).toNat)
  case atStart => exact ⟨f, hf, rfl, hide rfl⟩
  case round =>
    obtain ⟨k, hk, rfl, hr⟩ := hrel
    cases h1 : isF s k
    · have h1' := hide h1; clear h1
      go_wp2_with (go_at_call 90; refine (isFactor_any _ _ k _ hs rfl).mono ?_; rintro e w' ⟨rfl, rfl⟩; rw [unhide h1'])
      go_ret
      exact ⟨ret_int (by rw [unhide hr, fe_no (unhide h1')]), rfl⟩
    · have hb := bh_bd h1
      have hl := isF_lt h1
      have h1' := hide h1; clear h1
      go_wp2_with (first | (go_at_call 90; refine (isFactor_any _ _ k _ hs rfl).mono ?_; rintro e w' ⟨rfl, rfl⟩; rw [unhide h1']) | (go_at_call 93; refine (behind_any _ _ k _ hs rfl (by omega)).mono ?_; rintro e w' ⟨rfl, rfl⟩))
      go_round
      case rel => exact ⟨bh s k, by omega, rfl, hide ((unhide hr).trans (by rw [fe_yes (unhide h1')]))⟩
      case measure => simp [intOf]; omega

/-- a place, or -1 -/
def pl (o : Option Nat) : Int := match o with
  | none => -1
  | some a => (a : Int)

set_option maxHeartbeats 400000 in
theorem alternative_any (s : ByteArray) (p q : Int) (x n : Nat) (w : World) (hs : s.size ≤ 300) (hp : p = x) (hq : q = n) (hx : x ≤ 302) (hn : n ≤ 20) :
    Calls Try.prog 86 #[.string s, .int .i64 p, .int .i64 q] w fun e w' => e = .returned (.int .i64 (pl (ap s n x))) ∧ w' = w := by
  subst hp hq
  have hs' : s.size ≤ maxLen := by unfold maxLen; omega
  go_enter Try.func86, Try.ntmps86
  go_wp2
  go_loop [7, 8] (fun pv i => ∃ (k y : Nat), k ≤ n ∧ y ≤ 302 ∧ i = .int .i64 k ∧ pv = .int .i64 y ∧ Hid (ap s n x = ap s (n - k) y)) (fun _ i => n - (intOf i).toNat)
  case atStart => exact ⟨0, x, by omega, by omega, rfl, rfl, hide rfl⟩
  case round =>
    obtain ⟨k, y, hk, hy, rfl, rfl, hr⟩ := hrel
    by_cases hlt : k < n
    · have hfb := fe_bd s y
      have hap : ap s (n - k) y = if bt s (fe s y).2 = 124 then ap s (n - (k + 1)) ((fe s y).2 + 1) else none := by
        rw [show n - k = (n - (k + 1)) + 1 by omega]; rfl
      by_cases hb : bt s (fe s y).2 = 124
      · rw [if_pos hb] at hap
        have hb' : (bt s (fe s y).2 != 124) = false := by simp [hb]
        have hl := bt_lt (s := s) (p := (fe s y).2) (by omega)
        have HA := hide hap; clear hap hb
        go_wp2_with (first | (go_at_call 89; refine (endOfAlternative_any _ _ y _ hs rfl (by omega)).mono ?_; rintro e w' ⟨rfl, rfl⟩) | (go_at_call 64; refine (at_any _ _ _ hs').mono ?_; rintro e w' ⟨rfl, rfl⟩))
        go_round
        case rel => exact ⟨k + 1, (fe s y).2 + 1, by omega, by omega, by go_num, by go_num, hide ((unhide hr).trans (unhide HA))⟩
        case measure => simp [intOf]; omega
      · rw [if_neg hb] at hap
        have hb' : (bt s (fe s y).2 != 124) = true := by simp [hb]
        have HA := hide hap; clear hap hb
        go_wp2_with (first | (go_at_call 89; refine (endOfAlternative_any _ _ y _ hs rfl (by omega)).mono ?_; rintro e w' ⟨rfl, rfl⟩) | (go_at_call 64; refine (at_any _ _ _ hs').mono ?_; rintro e w' ⟨rfl, rfl⟩))
        go_ret
        exact ⟨ret_int (by rw [unhide hr, unhide HA]; rfl), rfl⟩
    · go_wp2
      go_ret
      exact ⟨ret_int (by rw [unhide hr, show n - k = 0 by omega]; rfl), rfl⟩

set_option maxHeartbeats 400000 in
theorem expression_any (s : ByteArray) (c : Int) (j : Nat) (w : World) (hs : s.size ≤ 300) (hj : rl s c = (j : Int)) (hj2 : j < s.size) :
    Calls Try.prog 65 #[.string s, .int .u8 c] w fun e w' => e = .returned (.int .i64 ((j : Int) + 2)) ∧ w' = w := by
  have hs' : s.size ≤ maxLen := by unfold maxLen; omega
  have HJ := hide hj; clear hj
  go_enter Try.func65, Try.ntmps65
  go_wp2_with (go_at_call 62; refine (firstRule_any _ _ _ hs').mono ?_; rintro e w' ⟨rfl, rfl⟩; rw [unhide HJ])
  go_ret
  exact ⟨rfl, rfl⟩

set_option maxHeartbeats 400000 in
theorem isDigit_any (c : Int) (w : World) : Calls Try.prog 85 #[.int .u8 c] w fun e w' => e = .returned (.bool (cD c)) ∧ w' = w := by
  go_enter Try.func85, Try.ntmps85
  go_wp2
  all_goals (go_ret; exact ⟨ret_bool (by simp [cD]; omega), rfl⟩)

set_option maxHeartbeats 400000 in
theorem greater_any (a b : Int) (w : World) : Calls Try.prog 92 #[.int .i64 a, .int .i64 b] w fun e w' => e = .returned (.int .i64 (max a b)) ∧ w' = w := by
  go_enter Try.func92, Try.ntmps92
  go_wp2
  all_goals (go_ret; exact ⟨ret_int (by omega), rfl⟩)
end Go.Proofs.Ythpafmkhhcidbaa
