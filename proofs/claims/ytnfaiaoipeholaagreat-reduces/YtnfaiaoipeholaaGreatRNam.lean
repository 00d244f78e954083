/- The reference reads a name with its brackets. -/
import Derived.Test.YtnfaiaoipeholaaGreatRTree
namespace Go.Proofs.YtnfaiaoipeholaaGreat
open Go.RowKit
theorem rr_form (r : Option (Nat × Nat)) : ∃ a b : Int, rr r = .returned (.tuple #[.int .i64 a, .int .i64 b]) := by
  cases r with
  | none => exact ⟨0, -1, rfl⟩
  | some y => exact ⟨y.2, y.1, rfl⟩
section
variable {s t : ByteArray} {B g : Nat} {most : Int}

set_option maxHeartbeats 1000000 in
set_option maxRecDepth 1000000 in
theorem rname_any {n : Nat} (hn : n ≤ 2005) (hT : SaidT s t B g most n) (f i : Nat) (w : World) (v : Wd w s t B g) (hi : i ≤ 2003) (hin : t.size < i + n) (hl : i < t.size) (h1' : ((t[i].toNat : Int) != bt s f) = false) (h3 : cN (bt s f) = true) (h2f : cL (bt s f) = false) :
    Calls Tryz.prog 110 #[.pointer (some ⟨g, 0, none⟩), .agg #[.int .u8 (bt s f), .pointer none], .string t, .int .i64 i, .int .i64 most] w fun e w' => e = rr (pN s t (pE s t most n) f (i + 1)) ∧ Below w.heap.size w w' := by
  have ht := v.ht
  have H2 := hide h2f; clear h2f
  generalize hR : pN s t (pE s t most n) f (i + 1) = R
  have hv : 65 ≤ bt s f ∧ bt s f ≤ 90 := by simpa [cN] using h3
  obtain ⟨p, m, j, hj, hj2, hcell, hE⟩ := v.gr.rules f h3
  have H3 := hide h3
  have hglt : g < w.heap.size := Nat.lt_of_lt_of_le v.gr.lt v.hB
  have hbb : Below w.heap.size w (w.alloc (.cells #[.int .u8 (bt s f), .pointer none] 98)) := (Below.refl _ _).alloc (Nat.le_refl _) _
  unfold pN at hR
  clear h3
  by_cases hl1 : i + 1 < t.size
  case neg =>
    rw [if_pos (by rw [bt_out t (i + 1 : Nat) (by omega)]; omega)] at hR
    subst hR
    go_enter Tryz.func110, Tryz.ntmps110
    go_wp2_with fail
    go_quiet (fail)
    go_wp2_with (first | (go_at_call 119; refine (letter_any _ _).mono ?_; rintro e w' ⟨rfl, hw⟩; subst hw; rw [unhide H2]) | (go_at_call 59; refine (name_any _ _).mono ?_; rintro e w' ⟨rfl, hw⟩; subst hw; rw [unhide H3]))
    go_ret2
    exact ⟨rfl, below_drewN hbb _⟩
  have hb1 := bt_at t (i + 1) hl1
  by_cases h40 : bt t (i + 1 : Nat) = 40
  case neg =>
    rw [if_pos h40] at hR
    subst hR
    rw [hb1] at h40
    have h40' : ((t[i + 1].toNat : Int) != 40) = true := by simp only [bne_iff_ne]; exact h40
    clear h40 hb1
    go_enter Tryz.func110, Tryz.ntmps110
    go_wp2_with fail
    go_quiet (fail)
    go_wp2_with (first | (go_at_call 119; refine (letter_any _ _).mono ?_; rintro e w' ⟨rfl, hw⟩; subst hw; rw [unhide H2]) | (go_at_call 59; refine (name_any _ _).mono ?_; rintro e w' ⟨rfl, hw⟩; subst hw; rw [unhide H3]))
    go_ret2
    exact ⟨rfl, below_drewN hbb _⟩
  rw [if_neg (by simp only [ne_eq, Decidable.not_not]; exact h40), hj, show ((j : Int) + 2).toNat = j + 2 by omega] at hR
  rw [hb1] at h40
  have h40' : ((t[i + 1].toNat : Int) != 40) = false := by simp only [bne_eq_false_iff_eq]; exact h40
  have HR := hide hR
  obtain ⟨hv1, hv2⟩ := hv
  clear h40 hb1 hR hj
  have hix : bt s f - 65 < 26 := by omega
  have hix0 : 0 ≤ bt s f - 65 := by omega
  have hwr : IntKind.u8.wrap (bt s f - 65) = bt s f - 65 := by simp [IntKind.wrap, IntKind.signed, IntKind.bits]; omega
  have hw2 : IntKind.i64.wrap ((i : Int) + 2) = (i : Int) + 2 := by simp [IntKind.wrap, IntKind.signed, IntKind.bits]; omega
  go_enter Tryz.func110, Tryz.ntmps110
  go_wp2_with fail
  go_quiet (fail)
  go_wp2_with (first | (go_at_call 119; refine (letter_any _ _).mono ?_; rintro e w' ⟨rfl, hw⟩; subst hw; rw [unhide H2]) | (go_at_call 59; refine (name_any _ _).mono ?_; rintro e w' ⟨rfl, hw⟩; subst hw; rw [unhide H3]))
  go_region_with (go_at_call 149; refine (hT _ p (j + 2) m (i + 2) _ ?_ ?_ ?_ ?_ ?_).mono ?_; exact v.below (below_drewN hbb _); exact hE.below (below_drewN hbb _) v.hB; omega; omega; omega; rintro e w2 ⟨he, hb2⟩; obtain ⟨a, b, hab⟩ := rr_form (pE s t most n (j + 2) (i + 2)); rw [hab] at he; subst he; have HAB := hide hab; clear hab)
  have hab := unhide HAB
  clear HAB
  have hR := unhide HR
  clear HR
  cases hq : pE s t most n (j + 2) (i + 2) with
  | none =>
    rw [hq] at hab hR
    simp only at hR
    subst hR
    simp only [rr, Ending.returned.injEq, Value.tuple.injEq, Array.mk.injEq, List.cons.injEq, Value.int.injEq, true_and, and_true] at hab
    obtain ⟨rfl, rfl⟩ := hab
    clear hq
    go_wp2
    go_ret2
    exact ⟨rfl, (below_drewN hbb _).trans (hb2.mono (by simp))⟩
  | some y =>
    obtain ⟨j1, h1⟩ := y
    rw [hq] at hab hR
    simp only at hR
    simp only [rr, Ending.returned.injEq, Value.tuple.injEq, Array.mk.injEq, List.cons.injEq, Value.int.injEq, true_and, and_true] at hab
    obtain ⟨rfl, rfl⟩ := hab
    have hfw := pE_fwd s t most n (j + 2) (i + 2) j1 h1 hq
    obtain ⟨hfw1, hfw2, hfw3⟩ := hfw
    have hh1 : h1 ≤ 2005 := by omega
    clear hq
    by_cases hj1 : j1 < t.size
    case neg =>
      rw [if_neg (by rw [bt_out t j1 (by omega)]; omega)] at hR
      subst hR
      go_wp2
      go_ret2
      exact ⟨rfl, (below_drewN hbb _).trans (hb2.mono (by simp))⟩
    case pos =>
      have hbj := bt_at t j1 hj1
      rw [hbj] at hR
      clear hbj
      by_cases h41 : (t[j1].toNat : Int) = 41
      · rw [if_pos h41] at hR
        subst hR
        have h41' : ((t[j1].toNat : Int) != 41) = false := by simp only [bne_eq_false_iff_eq]; exact h41
        clear h41
        go_wp2
        go_ret2
        exact ⟨by simp only [rr]; go_num, (below_drewN hbb _).trans (hb2.mono (by simp))⟩
      · rw [if_neg h41] at hR
        subst hR
        have h41' : ((t[j1].toNat : Int) != 41) = true := by simp only [bne_iff_ne]; exact h41
        clear h41
        go_wp2
        go_ret2
        exact ⟨rfl, (below_drewN hbb _).trans (hb2.mono (by simp))⟩
end
end Go.Proofs.YtnfaiaoipeholaaGreat
