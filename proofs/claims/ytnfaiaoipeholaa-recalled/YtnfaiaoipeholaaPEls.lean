/- The program counts the elements of lists. -/
import Derived.Test.YtnfaiaoipeholaaPlaces
import Derived.Test.YtnfaiaoipeholaaRecMath3
namespace Go.Proofs.Ytnfaiaoipeholaa
open Go.RowKit
set_option maxHeartbeats 400000 in
theorem tElements_any (t : ByteArray) (q : Int) (p : Nat) (w : World) (ht : t.size ≤ 2000) (hq : q = p) (hp : p ≤ t.size) :
    Calls Try.prog 57 #[.string t, .int .i64 q] w fun e w' => e = .returned (.int .i64 (els t p)) ∧ w' = w := by
  subst hq
  have ht' : t.size ≤ maxLen := by unfold maxLen; omega
  generalize hR : els t p = R
  unfold els at hR
  have hcast : ((p : Int) + 1) = ((p + 1 : Nat) : Int) := by omega
  cases hx : cX (bt t (p + 1 : Nat))
  · rw [if_neg (by rw [hx]; decide)] at hR
    have HX : Hid (cX (bt t ((p : Int) + 1)) = false) := hide (by rw [hcast]; exact hx)
    have HR := hide hR
    clear hR hx hcast
    go_enter Try.func57, Try.ntmps57
    go_wp2_with (first | (go_at_call 52; refine (at_any _ _ _ ht').mono ?_; rintro e w' ⟨rfl, rfl⟩) | (go_at_call 92; refine (isClosing_any _ _).mono ?_; rintro e w' ⟨rfl, rfl⟩; rw [unhide HX]))
    go_loop [5, 6, 7] (fun cv dv iv => ∃ (k c : Nat) (d : Int), k ≤ 2001 ∧ c ≤ k + 1 ∧ -(k : Int) ≤ d ∧ d ≤ (k : Int) + 1 ∧ iv = .int .i64 k ∧ dv = .int .i64 d ∧ cv = .int .i64 c ∧ Hid (R = elD t k d c)) (fun _ _ iv => t.size - (intOf iv).toNat)
    case atStart => exact ⟨p + 1, 1, 1, by omega, by omega, by omega, by omega, by go_num, rfl, rfl, hide (unhide HR).symm⟩
    case round =>
      obtain ⟨k, c, d, hk, hc, hd1, hd2, rfl, rfl, rfl, hr⟩ := hrel
      by_cases hlt : k < t.size
      · by_cases hd : 0 < d
        · have hst := elD_step (c := c) hlt hd
          cases h1 : cO (bt t k)
          · cases h2 : cX (bt t k)
            · have e : dpt (bt t k) d = d := by simp [dpt, h1, h2]
              rw [e] at hst
              have h1' := hide h1; have h2' := hide h2
              by_cases h44 : bt t k = 44
              · have h44' : (bt t k == 44) = true := by simp [h44]
                by_cases hd1 : d = 1
                · have hd1' : (d == 1) = true := by simp [hd1]
                  rw [if_pos ⟨h44, hd1⟩] at hst
                  have HS := hide ((unhide hr).trans hst)
                  clear hst e h1 h2 hr h44
                  go_wp2_with (first | (go_at_call 52; refine (at_any _ _ _ ht').mono ?_; rintro e w' ⟨rfl, rfl⟩) | (go_at_call 55; refine (isOpening_any _ _).mono ?_; rintro e w' ⟨rfl, rfl⟩; rw [unhide h1']) | (go_at_call 92; refine (isClosing_any _ _).mono ?_; rintro e w' ⟨rfl, rfl⟩; rw [unhide h2']))
                  go_round
                  case rel => exact ⟨k + 1, c + 1, d, by omega, by omega, by omega, by omega, by go_num, by rw [hd1], by go_num, HS⟩
                  case measure => simp [intOf]; omega
                · have hd1' : (d == 1) = false := by simp [hd1]
                  rw [if_neg (fun hh => hd1 hh.2)] at hst
                  have HS := hide ((unhide hr).trans hst)
                  clear hst e h1 h2 hr h44
                  go_wp2_with (first | (go_at_call 52; refine (at_any _ _ _ ht').mono ?_; rintro e w' ⟨rfl, rfl⟩) | (go_at_call 55; refine (isOpening_any _ _).mono ?_; rintro e w' ⟨rfl, rfl⟩; rw [unhide h1']) | (go_at_call 92; refine (isClosing_any _ _).mono ?_; rintro e w' ⟨rfl, rfl⟩; rw [unhide h2']))
                  go_round
                  case rel => exact ⟨k + 1, c, d, by omega, by omega, by omega, by omega, by go_num, rfl, rfl, HS⟩
                  case measure => simp [intOf]; omega
              · have h44' : (bt t k == 44) = false := by simp [h44]
                rw [if_neg (fun hh => h44 hh.1)] at hst
                have HS := hide ((unhide hr).trans hst)
                clear hst e h1 h2 hr h44
                go_wp2_with (first | (go_at_call 52; refine (at_any _ _ _ ht').mono ?_; rintro e w' ⟨rfl, rfl⟩) | (go_at_call 55; refine (isOpening_any _ _).mono ?_; rintro e w' ⟨rfl, rfl⟩; rw [unhide h1']) | (go_at_call 92; refine (isClosing_any _ _).mono ?_; rintro e w' ⟨rfl, rfl⟩; rw [unhide h2']))
                go_round
                case rel => exact ⟨k + 1, c, d, by omega, by omega, by omega, by omega, by go_num, rfl, rfl, HS⟩
                case measure => simp [intOf]; omega
            · have e : dpt (bt t k) d = d - 1 := by simp [dpt, h1, h2]
              have h44 : bt t k ≠ 44 := by intro e; rw [e] at h2; revert h2; decide
              have h44' : (bt t k == 44) = false := by simp [h44]
              rw [e, if_neg (fun hh => h44 hh.1)] at hst
              have h1' := hide h1; have h2' := hide h2
              have HS := hide ((unhide hr).trans hst)
              clear hst e h1 h2 hr h44
              go_wp2_with (first | (go_at_call 52; refine (at_any _ _ _ ht').mono ?_; rintro e w' ⟨rfl, rfl⟩) | (go_at_call 55; refine (isOpening_any _ _).mono ?_; rintro e w' ⟨rfl, rfl⟩; rw [unhide h1']) | (go_at_call 92; refine (isClosing_any _ _).mono ?_; rintro e w' ⟨rfl, rfl⟩; rw [unhide h2']))
              go_round
              case rel => exact ⟨k + 1, c, d - 1, by omega, by omega, by omega, by omega, by go_num, rfl, rfl, HS⟩
              case measure => simp [intOf]; omega
          · have e : dpt (bt t k) d = d + 1 := by simp [dpt, h1]
            have h44 : bt t k ≠ 44 := by intro e; rw [e] at h1; revert h1; decide
            have h44' : (bt t k == 44) = false := by simp [h44]
            have h2 : cX (bt t k) = false := by
              cases e : cX (bt t k)
              · rfl
              · have := cX_vals e; have := cO_vals h1; omega
            rw [e, if_neg (fun hh => h44 hh.1)] at hst
            have h1' := hide h1; have h2' := hide h2
            have HS := hide ((unhide hr).trans hst)
            clear hst e h1 h2 hr h44
            go_wp2_with (first | (go_at_call 52; refine (at_any _ _ _ ht').mono ?_; rintro e w' ⟨rfl, rfl⟩) | (go_at_call 55; refine (isOpening_any _ _).mono ?_; rintro e w' ⟨rfl, rfl⟩; rw [unhide h1']) | (go_at_call 92; refine (isClosing_any _ _).mono ?_; rintro e w' ⟨rfl, rfl⟩; rw [unhide h2']))
            go_round
            case rel => exact ⟨k + 1, c, d + 1, by omega, by omega, by omega, by omega, by go_num, rfl, rfl, HS⟩
            case measure => simp [intOf]; omega
        · have HF : Hid (R = c) := hide (by rw [unhide hr, elD_zero (by omega)])
          clear hr
          go_wp2
          go_ret
          exact ⟨ret_int (by rw [unhide HF]), rfl⟩
      · have HF : Hid (R = c) := hide (by rw [unhide hr]; unfold elD; rw [show t.size - k = 0 by omega]; rfl)
        clear hr
        go_wp2
        go_ret
        exact ⟨ret_int (by rw [unhide HF]), rfl⟩
  · rw [if_pos hx] at hR
    have HX : Hid (cX (bt t ((p : Int) + 1)) = true) := hide (by rw [hcast]; exact hx)
    subst hR
    clear hx hcast
    go_enter Try.func57, Try.ntmps57
    go_wp2_with (first | (go_at_call 52; refine (at_any _ _ _ ht').mono ?_; rintro e w' ⟨rfl, rfl⟩) | (go_at_call 92; refine (isClosing_any _ _).mono ?_; rintro e w' ⟨rfl, rfl⟩; rw [unhide HX]))
    go_ret
    exact ⟨rfl, rfl⟩

set_option maxHeartbeats 400000 in
theorem mostElements_any (t : ByteArray) (w : World) (ht : t.size ≤ 2000) :
    Calls Try.prog 32 #[.string t] w fun e w' => e = .returned (.int .i64 (mx t)) ∧ w' = w := by
  generalize hR : mx t = R
  unfold mx at hR
  have HR := hide hR
  clear hR
  go_enter Try.func32, Try.ntmps32
  go_wp2
  go_loop [3, 4] (fun mv iv => ∃ (k r : Nat), k ≤ t.size ∧ iv = .int .i64 k ∧ mv = .int .i64 r ∧ Hid (R = mxF t (t.size - k) k r)) (fun _ iv => t.size - (intOf iv).toNat)
  case atStart => exact ⟨0, 0, Nat.zero_le _, rfl, rfl, hide (unhide HR).symm⟩
  case round =>
    obtain ⟨k, r, hk, rfl, rfl, hr⟩ := hrel
    by_cases hlt : k < t.size
    · have hb := bt_at t k hlt
      have hst : R = mxF t (t.size - (k + 1)) (k + 1) (if cO (bt t k) = true then max r (els t k) else r) := by
        rw [unhide hr, show t.size - k = t.size - (k + 1) + 1 by omega]; rfl
      cases h1 : cO (bt t k)
      · rw [if_neg (by rw [h1]; decide)] at hst
        rw [hb] at h1
        have h1' := hide h1
        have HS := hide hst
        clear hst h1 hr hb
        go_wp2_with (first | (go_at_call 55; refine (isOpening_any _ _).mono ?_; rintro e w' ⟨rfl, rfl⟩; rw [unhide h1']))
        go_round
        case rel => exact ⟨k + 1, r, by omega, by go_num, rfl, HS⟩
        case measure => simp [intOf]; omega
      · rw [if_pos h1] at hst
        rw [hb] at h1
        have h1' := hide h1
        have HS := hide hst
        clear hst h1 hr hb
        go_wp2_with (first | (go_at_call 55; refine (isOpening_any _ _).mono ?_; rintro e w' ⟨rfl, rfl⟩; rw [unhide h1']) | (go_at_call 57; refine (tElements_any _ _ k _ ht rfl (by omega)).mono ?_; rintro e w' ⟨rfl, rfl⟩) | (go_at_call 56; refine (greater_any _ _ _).mono ?_; rintro e w' ⟨rfl, rfl⟩))
        go_round
        case rel => exact ⟨k + 1, max r (els t k), by omega, by go_num, by go_num, HS⟩
        case measure => simp [intOf]; omega
    · have HF : Hid (R = r) := hide (by rw [unhide hr, show t.size - k = 0 by omega]; rfl)
      clear hr
      go_wp2
      go_ret
      exact ⟨ret_int (by rw [unhide HF]), rfl⟩
end Go.Proofs.Ytnfaiaoipeholaa
