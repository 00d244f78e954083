/- The walks of the functions on places of a grammar. -/
import Derived.Test.YtnfaiaoipeholaaScan
import Derived.Test.YtnfaiaoipeholaaGoodMath
namespace Go.Proofs.Ytnfaiaoipeholaa
open Go.RowKit

set_option maxHeartbeats 400000 in
theorem isFactor_any (s : ByteArray) (p : Int) (f : Nat) (w : World) (hs : s.size ≤ 300) (hp : p = f) :
    Calls Try.prog 115 #[.string s, .int .i64 p] w fun e w' => e = .returned (.bool (isF s f)) ∧ w' = w := by
  subst hp
  have hs' : s.size ≤ maxLen := by unfold maxLen; omega
  cases h1 : cL (bt s f)
  · have h1' := hide h1
    cases h2 : cN (bt s f)
    · have h2' := hide h2
      have hi : isF s f = cO (bt s f) := by simp [isF, h1, h2]
      rw [hi]
      clear h1 h2 hi
      go_enter Try.func115, Try.ntmps115
      go_wp2_with (first | (go_at_call 52; refine (at_any _ _ _ hs').mono ?_; rintro e w' ⟨rfl, rfl⟩) | (go_at_call 67; refine (isLetter_any _ _).mono ?_; rintro e w' ⟨rfl, rfl⟩; rw [unhide h1']) | (go_at_call 51; refine (isName_any _ _).mono ?_; rintro e w' ⟨rfl, rfl⟩; rw [unhide h2']) | (go_at_call 55; refine (isOpening_any _ _).mono ?_; rintro e w' ⟨rfl, rfl⟩))
      go_ret; exact ⟨rfl, rfl⟩
    · have h2' := hide h2
      have hi : isF s f = true := by simp [isF, h2]
      rw [hi]
      clear h1 h2 hi
      go_enter Try.func115, Try.ntmps115
      go_wp2_with (first | (go_at_call 52; refine (at_any _ _ _ hs').mono ?_; rintro e w' ⟨rfl, rfl⟩) | (go_at_call 67; refine (isLetter_any _ _).mono ?_; rintro e w' ⟨rfl, rfl⟩; rw [unhide h1']) | (go_at_call 51; refine (isName_any _ _).mono ?_; rintro e w' ⟨rfl, rfl⟩; rw [unhide h2']))
      go_ret; exact ⟨rfl, rfl⟩
  · have h1' := hide h1
    have hi : isF s f = true := by simp [isF, h1]
    rw [hi]
    clear h1 hi
    go_enter Try.func115, Try.ntmps115
    go_wp2_with (first | (go_at_call 52; refine (at_any _ _ _ hs').mono ?_; rintro e w' ⟨rfl, rfl⟩) | (go_at_call 67; refine (isLetter_any _ _).mono ?_; rintro e w' ⟨rfl, rfl⟩; rw [unhide h1']))
    go_ret; exact ⟨rfl, rfl⟩

set_option maxHeartbeats 400000 in
theorem behind_any (s : ByteArray) (p : Int) (f : Nat) (w : World) (hs : s.size ≤ 300) (hp : p = f) (hf : f ≤ 300) :
    Calls Try.prog 116 #[.string s, .int .i64 p] w fun e w' => e = .returned (.int .i64 (bh s f)) ∧ w' = w := by
  subst hp
  have hs' : s.size ≤ maxLen := by unfold maxLen; omega
  go_enter Try.func116, Try.ntmps116
  go_wp2
  go_loop [5, 6] (fun d i => ∃ (k : Nat) (dd : Int), k ≤ 300 ∧ i = .int .i64 k ∧ d = .int .i64 dd ∧ -(k : Int) ≤ dd ∧ dd ≤ k ∧ Hid (bh s f = bhD s k dd)) (fun _ i => s.size - (intOf i).toNat)
  case atStart => exact ⟨f, 0, by omega, rfl, rfl, by omega, by omega, hide rfl⟩
  case round =>
    obtain ⟨k, dd, hk, rfl, rfl, hd1, hd2, hr⟩ := hrel
    by_cases hlt : k < s.size
    · cases h1 : cO (bt s k)
      · cases h2 : cX (bt s k)
        · have HD : Hid (dpt (bt s k) dd = dd) := hide (by simp [dpt, h1, h2])
          have h1' := hide h1; have h2' := hide h2; clear h1 h2
          by_cases hz : dd = 0
          · have hz' : (dd == 0) = true := by simp only [beq_iff_eq]; exact hz
            have HZ := hide hz; clear hz
            go_wp2_with (first | (go_at_call 52; refine (at_any _ _ _ hs').mono ?_; rintro e w' ⟨rfl, rfl⟩) | (go_at_call 55; refine (isOpening_any _ _).mono ?_; rintro e w' ⟨rfl, rfl⟩; rw [unhide h1']) | (go_at_call 92; refine (isClosing_any _ _).mono ?_; rintro e w' ⟨rfl, rfl⟩; rw [unhide h2']))
            go_ret
            exact ⟨ret_int (by rw [unhide hr, bhD_step hlt, unhide HD, if_pos (unhide HZ)]; go_num), rfl⟩
          · have hz' : (dd == 0) = false := by simp only [beq_eq_false_iff_ne]; exact hz
            have HZ := hide hz; clear hz
            go_wp2_with (first | (go_at_call 52; refine (at_any _ _ _ hs').mono ?_; rintro e w' ⟨rfl, rfl⟩) | (go_at_call 55; refine (isOpening_any _ _).mono ?_; rintro e w' ⟨rfl, rfl⟩; rw [unhide h1']) | (go_at_call 92; refine (isClosing_any _ _).mono ?_; rintro e w' ⟨rfl, rfl⟩; rw [unhide h2']))
            go_round
            case rel => exact ⟨k + 1, dd, by omega, by go_num, rfl, by omega, by omega, hide ((unhide hr).trans (by rw [bhD_step hlt, unhide HD, if_neg (unhide HZ)]))⟩
            case measure => simp [intOf]; omega
        · have HD : Hid (dpt (bt s k) dd = dd - 1) := hide (by simp [dpt, h1, h2])
          have h1' := hide h1; have h2' := hide h2; clear h1 h2
          by_cases hz : dd - 1 = 0
          · have hz' : (dd - 1 == 0) = true := by simp only [beq_iff_eq]; exact hz
            have HZ := hide hz; clear hz
            go_wp2_with (first | (go_at_call 52; refine (at_any _ _ _ hs').mono ?_; rintro e w' ⟨rfl, rfl⟩) | (go_at_call 55; refine (isOpening_any _ _).mono ?_; rintro e w' ⟨rfl, rfl⟩; rw [unhide h1']) | (go_at_call 92; refine (isClosing_any _ _).mono ?_; rintro e w' ⟨rfl, rfl⟩; rw [unhide h2']))
            go_ret
            exact ⟨ret_int (by rw [unhide hr, bhD_step hlt, unhide HD, if_pos (unhide HZ)]; go_num), rfl⟩
          · have hz' : (dd - 1 == 0) = false := by simp only [beq_eq_false_iff_ne]; exact hz
            have HZ := hide hz; clear hz
            go_wp2_with (first | (go_at_call 52; refine (at_any _ _ _ hs').mono ?_; rintro e w' ⟨rfl, rfl⟩) | (go_at_call 55; refine (isOpening_any _ _).mono ?_; rintro e w' ⟨rfl, rfl⟩; rw [unhide h1']) | (go_at_call 92; refine (isClosing_any _ _).mono ?_; rintro e w' ⟨rfl, rfl⟩; rw [unhide h2']))
            go_round
            case rel => exact ⟨k + 1, dd - 1, by omega, by go_num, rfl, by omega, by omega, hide ((unhide hr).trans (by rw [bhD_step hlt, unhide HD, if_neg (unhide HZ)]))⟩
            case measure => simp [intOf]; omega
      · have h2 : cX (bt s k) = false := by
          cases e : cX (bt s k)
          · rfl
          · have := cX_vals e; have := cO_vals h1; omega
        have HD : Hid (dpt (bt s k) dd = dd + 1) := hide (by simp [dpt, h1])
        have h1' := hide h1; have h2' := hide h2; clear h1 h2
        by_cases hz : dd + 1 = 0
        · have hz' : (dd + 1 == 0) = true := by simp only [beq_iff_eq]; exact hz
          have HZ := hide hz; clear hz
          go_wp2_with (first | (go_at_call 52; refine (at_any _ _ _ hs').mono ?_; rintro e w' ⟨rfl, rfl⟩) | (go_at_call 55; refine (isOpening_any _ _).mono ?_; rintro e w' ⟨rfl, rfl⟩; rw [unhide h1']) | (go_at_call 92; refine (isClosing_any _ _).mono ?_; rintro e w' ⟨rfl, rfl⟩; rw [unhide h2']))
          go_ret
          exact ⟨ret_int (by rw [unhide hr, bhD_step hlt, unhide HD, if_pos (unhide HZ)]; go_num), rfl⟩
        · have hz' : (dd + 1 == 0) = false := by simp only [beq_eq_false_iff_ne]; exact hz
          have HZ := hide hz; clear hz
          go_wp2_with (first | (go_at_call 52; refine (at_any _ _ _ hs').mono ?_; rintro e w' ⟨rfl, rfl⟩) | (go_at_call 55; refine (isOpening_any _ _).mono ?_; rintro e w' ⟨rfl, rfl⟩; rw [unhide h1']) | (go_at_call 92; refine (isClosing_any _ _).mono ?_; rintro e w' ⟨rfl, rfl⟩; rw [unhide h2']))
          go_round
          case rel => exact ⟨k + 1, dd + 1, by omega, by go_num, rfl, by omega, by omega, hide ((unhide hr).trans (by rw [bhD_step hlt, unhide HD, if_neg (unhide HZ)]))⟩
          case measure => simp [intOf]; omega
    · go_wp2
      go_ret
      exact ⟨ret_int (by rw [unhide hr, bhD_end hlt]), rfl⟩

set_option maxHeartbeats 400000 in
theorem endOfAlternative_any (s : ByteArray) (p : Int) (f : Nat) (w : World) (hs : s.size ≤ 300) (hp : p = f) (hf : f ≤ 400) :
    Calls Try.prog 131 #[.string s, .int .i64 p] w fun e w' => e = .returned (.int .i64 ((fe s f).2 : Nat)) ∧ w' = w := by
  subst hp
  go_enter Try.func131, Try.ntmps131
  go_wp2
  go_loop [1] (fun i => ∃ (k : Nat), k ≤ 400 ∧ i = .int .i64 k ∧ Hid ((fe s f).2 = (fe s k).2)) (fun i => s.size - (intOf i).toNat)
  case atStart => exact ⟨f, hf, rfl, hide rfl⟩
  case round =>
    obtain ⟨k, hk, rfl, hr⟩ := hrel
    cases h1 : isF s k
    · have h1' := hide h1; clear h1
      go_wp2_with (go_at_call 115; refine (isFactor_any _ _ k _ hs rfl).mono ?_; rintro e w' ⟨rfl, rfl⟩; rw [unhide h1'])
      go_ret
      exact ⟨ret_int (by rw [unhide hr, fe_no (unhide h1')]), rfl⟩
    · have hb := bh_bd h1
      have hl := isF_lt h1
      have h1' := hide h1; clear h1
      go_wp2_with (first | (go_at_call 115; refine (isFactor_any _ _ k _ hs rfl).mono ?_; rintro e w' ⟨rfl, rfl⟩; rw [unhide h1']) | (go_at_call 116; refine (behind_any _ _ k _ hs rfl (by omega)).mono ?_; rintro e w' ⟨rfl, rfl⟩))
      go_round
      case rel => exact ⟨bh s k, by omega, rfl, hide ((unhide hr).trans (by rw [fe_yes (unhide h1')]))⟩
      case measure => simp [intOf]; omega

/-- a place, or -1 -/
def pl (o : Option Nat) : Int := match o with
  | none => -1
  | some a => (a : Int)

/-- the alternative behind -/
def nx (s : ByteArray) (x : Nat) : Option Nat := if bt s (fe s x).2 = 124 then some ((fe s x).2 + 1) else none
theorem ap_nx (s : ByteArray) (k x y : Nat) (h : ap s k x = some y) : ap s (k + 1) x = nx s y := by
  rw [ap_last, h]; rfl
theorem pl_ne (y : Nat) : (pl (some y) != -1) = true := by
  have : pl (some y) = (y : Int) := rfl
  rw [this]; simp only [bne_iff_ne]; omega

set_option maxHeartbeats 400000 in
theorem next_any (s : ByteArray) (p : Int) (x : Nat) (w : World) (hs : s.size ≤ 300) (hp : p = x) (hx : x ≤ 302) :
    Calls Try.prog 119 #[.string s, .int .i64 p] w fun e w' => e = .returned (.int .i64 (pl (nx s x))) ∧ w' = w := by
  subst hp
  have hs' : s.size ≤ maxLen := by unfold maxLen; omega
  have hfb := fe_bd s x
  by_cases hb : bt s (fe s x).2 = 124
  · have hb' : (bt s (fe s x).2 != 124) = false := by simp [hb]
    have HA : Hid (pl (nx s x) = (fe s x).2 + 1) := hide (by unfold nx; rw [if_pos hb]; show (((fe s x).2 + 1 : Nat) : Int) = _; omega)
    clear hb
    go_enter Try.func119, Try.ntmps119
    go_wp2_with (first | (go_at_call 131; refine (endOfAlternative_any _ _ x _ hs rfl (by omega)).mono ?_; rintro e w' ⟨rfl, rfl⟩) | (go_at_call 52; refine (at_any _ _ _ hs').mono ?_; rintro e w' ⟨rfl, rfl⟩))
    go_ret
    exact ⟨ret_int (by rw [unhide HA]), rfl⟩
  · have hb' : (bt s (fe s x).2 != 124) = true := by simp [hb]
    have HA : Hid (pl (nx s x) = -1) := hide (by unfold nx; rw [if_neg hb]; rfl)
    clear hb
    go_enter Try.func119, Try.ntmps119
    go_wp2_with (first | (go_at_call 131; refine (endOfAlternative_any _ _ x _ hs rfl (by omega)).mono ?_; rintro e w' ⟨rfl, rfl⟩) | (go_at_call 52; refine (at_any _ _ _ hs').mono ?_; rintro e w' ⟨rfl, rfl⟩))
    go_ret
    exact ⟨ret_int (by rw [unhide HA]), rfl⟩

set_option maxHeartbeats 400000 in
theorem alternative_any (s : ByteArray) (p q : Int) (x n : Nat) (w : World) (hs : s.size ≤ 300) (hp : p = x) (hq : q = n) (hx : x ≤ 302) (hn : n ≤ 20) :
    Calls Try.prog 113 #[.string s, .int .i64 p, .int .i64 q] w fun e w' => e = .returned (.int .i64 (pl (ap s n x))) ∧ w' = w := by
  subst hp hq
  go_enter Try.func113, Try.ntmps113
  go_wp2
  go_loop [7, 8] (fun pv i => ∃ (k : Nat) (y : Int), k ≤ n ∧ i = .int .i64 k ∧ pv = .int .i64 y ∧ Hid (y = pl (ap s k x))) (fun _ i => n - (intOf i).toNat)
  case atStart => exact ⟨0, x, by omega, rfl, rfl, hide rfl⟩
  case round =>
    obtain ⟨k, y, hk, rfl, rfl, hr⟩ := hrel
    by_cases hlt : k < n
    · cases ho : ap s k x with
      | none =>
        have hy : y = -1 := by rw [unhide hr, ho]; rfl
        have hn' : Hid (ap s n x = none) := hide (ap_none ho n hk)
        subst hy
        clear hr ho
        go_wp2
        go_ret
        exact ⟨ret_int (by rw [unhide hn']; rfl), rfl⟩
      | some z =>
        have hy : y = z := by rw [unhide hr, ho]; rfl
        have hz := ap_bd ho
        have hne : ((z : Int) != -1) = true := pl_ne z
        have HA : Hid (pl (nx s z) = pl (ap s (k + 1) x)) := hide (by rw [ap_nx s k x z ho])
        subst hy
        clear hr ho
        go_wp2_with (go_at_call 119; refine (next_any _ _ z _ hs rfl (by omega)).mono ?_; rintro e w' ⟨rfl, rfl⟩)
        go_round
        case rel => exact ⟨k + 1, _, by omega, by go_num, rfl, hide (unhide HA)⟩
        case measure => simp [intOf]; omega
    · have hkn : k = n := by omega
      have hr2 := unhide hr
      rw [hkn] at hr2
      clear hr
      have HR := hide hr2; clear hr2
      go_wp2
      go_ret
      exact ⟨ret_int (unhide HR), rfl⟩

set_option maxHeartbeats 400000 in
theorem expression_any (s : ByteArray) (c : Int) (j : Nat) (w : World) (hs : s.size ≤ 300) (hj : rl s c = (j : Int)) (hj2 : j < s.size) :
    Calls Try.prog 53 #[.string s, .int .u8 c] w fun e w' => e = .returned (.int .i64 ((j : Int) + 2)) ∧ w' = w := by
  have hs' : s.size ≤ maxLen := by unfold maxLen; omega
  have HJ := hide hj; clear hj
  go_enter Try.func53, Try.ntmps53
  go_wp2_with (go_at_call 50; refine (firstRule_any _ _ _ hs').mono ?_; rintro e w' ⟨rfl, rfl⟩; rw [unhide HJ])
  go_ret
  exact ⟨rfl, rfl⟩

set_option maxHeartbeats 400000 in
theorem expression_none (s : ByteArray) (c : Int) (w : World) (hs : s.size ≤ 300) (hj : rl s c = -1) :
    Calls Try.prog 53 #[.string s, .int .u8 c] w fun e w' => e = .returned (.int .i64 (-1)) ∧ w' = w := by
  have hs' : s.size ≤ maxLen := by unfold maxLen; omega
  have HJ := hide hj; clear hj
  go_enter Try.func53, Try.ntmps53
  go_wp2_with (go_at_call 50; refine (firstRule_any _ _ _ hs').mono ?_; rintro e w' ⟨rfl, rfl⟩; rw [unhide HJ])
  go_ret
  exact ⟨rfl, rfl⟩

set_option maxHeartbeats 400000 in
theorem isDigit_any (c : Int) (w : World) : Calls Try.prog 61 #[.int .u8 c] w fun e w' => e = .returned (.bool (cD c)) ∧ w' = w := by
  go_enter Try.func61, Try.ntmps61
  go_wp2
  all_goals (go_ret; exact ⟨ret_bool (by simp [cD]; omega), rfl⟩)

set_option maxHeartbeats 400000 in
theorem greater_any (a b : Int) (w : World) : Calls Try.prog 56 #[.int .i64 a, .int .i64 b] w fun e w' => e = .returned (.int .i64 (max a b)) ∧ w' = w := by
  go_enter Try.func56, Try.ntmps56
  go_wp2
  all_goals (go_ret; exact ⟨ret_int (by omega), rfl⟩)
end Go.Proofs.Ytnfaiaoipeholaa
