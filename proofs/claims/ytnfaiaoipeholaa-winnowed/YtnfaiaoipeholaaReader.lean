/- The walks of the reader that goes along a grammar. -/
import Derived.Test.YtnfaiaoipeholaaScan
import Derived.Deep.QuietTactic
import Derived.BigQuiet
import Derived.Deep.RegionWith
namespace Go.Proofs.Ytnfaiaoipeholaa
open Go.RowKit

/-- a function at one more place -/
def upd (f : Nat → Int) (j : Nat) (x : Int) : Nat → Int := fun i => if i = j then x else f i
theorem upd_same (f : Nat → Int) (j : Nat) (x : Int) : upd f j x j = x := by simp [upd]
theorem upd_other (f : Nat → Int) (j i : Nat) (x : Int) (h : i ≠ j) : upd f j x i = f i := by simp [upd, h]

/-- the reader's thirteen cells -/
structure Rd (w : World) (b : Nat) (a d : Int) (cl br : Nat → Int) : Prop where
  wants : w.cell? ⟨b, 0, none⟩ = some (.int .i64 a)
  deep : w.cell? ⟨b, 1, none⟩ = some (.int .i64 d)
  clo : ∀ j, j < 5 → w.cell? ⟨b, 2 + j, none⟩ = some (.int .u8 (cl j))
  bar : ∀ j, j < 6 → w.cell? ⟨b, 7 + j, none⟩ = some (.int .i64 (br j))
  froz : ∀ j, j < 13 → w.frozen? ⟨b, j, none⟩ = false
section
variable {w : World} {b : Nat} {a d : Int} {cl br : Nat → Int}
theorem Rd.drew (h : Rd w b a d cl br) : Rd w.drew b a d cl br := ⟨h.wants, h.deep, h.clo, h.bar, h.froz⟩
theorem Rd.drewN (h : Rd w b a d cl br) (n : Nat) : Rd (w.drewN n) b a d cl br := ⟨h.wants, h.deep, h.clo, h.bar, h.froz⟩
theorem oth {w : World} {b i j : Nat} {v : Value} (h : i ≠ j) : (w.setCell ⟨b, i, none⟩ v).cell? ⟨b, j, none⟩ = w.cell? ⟨b, j, none⟩ :=
  World.cell?_setCell_other w _ _ _ (fun e => h (by injection e))
theorem bset {B b : Nat} {w0 w : World} (h : Below B w0 w) (hB : B ≤ b) (i : Nat) (v : Value) : Below B w0 (w.setCell ⟨b, i, none⟩ v) := h.setCell (p := ⟨b, i, none⟩) hB v
theorem Rd.setWants (h : Rd w b a d cl br) (x : Int) : Rd (w.setCell ⟨b, 0, none⟩ (.int .i64 x)) b x d cl br :=
  ⟨World.cell?_setCell_same w _ _ h.wants, by rw [oth (by omega)]; exact h.deep, fun j hj => by rw [oth (by omega)]; exact h.clo j hj, fun j hj => by rw [oth (by omega)]; exact h.bar j hj, fun j hj => by rw [World.frozen?_setCell]; exact h.froz j hj⟩
theorem Rd.setDeep (h : Rd w b a d cl br) (x : Int) : Rd (w.setCell ⟨b, 1, none⟩ (.int .i64 x)) b a x cl br :=
  ⟨by rw [oth (by omega)]; exact h.wants, World.cell?_setCell_same w _ _ h.deep, fun j hj => by rw [oth (by omega)]; exact h.clo j hj, fun j hj => by rw [oth (by omega)]; exact h.bar j hj, fun j hj => by rw [World.frozen?_setCell]; exact h.froz j hj⟩
theorem Rd.setClo (h : Rd w b a d cl br) (k : Nat) (hk : k < 5) (x : Int) : Rd (w.setCell ⟨b, 2 + k, none⟩ (.int .u8 x)) b a d (upd cl k x) br :=
  ⟨by rw [oth (by omega)]; exact h.wants, by rw [oth (by omega)]; exact h.deep, fun j hj => by
    by_cases e : j = k
    · subst e; rw [World.cell?_setCell_same w _ _ (h.clo j hj), upd_same]
    · rw [oth (by omega), upd_other _ _ _ _ e]; exact h.clo j hj, fun j hj => by rw [oth (by omega)]; exact h.bar j hj, fun j hj => by rw [World.frozen?_setCell]; exact h.froz j hj⟩
theorem Rd.setBar (h : Rd w b a d cl br) (k : Nat) (hk : k < 6) (x : Int) : Rd (w.setCell ⟨b, 7 + k, none⟩ (.int .i64 x)) b a d cl (upd br k x) :=
  ⟨by rw [oth (by omega)]; exact h.wants, by rw [oth (by omega)]; exact h.deep, fun j hj => by rw [oth (by omega)]; exact h.clo j hj, fun j hj => by
    by_cases e : j = k
    · subst e; rw [World.cell?_setCell_same w _ _ (h.bar j hj), upd_same]
    · rw [oth (by omega), upd_other _ _ _ _ e]; exact h.bar j hj, fun j hj => by rw [World.frozen?_setCell]; exact h.froz j hj⟩
end

set_option maxHeartbeats 400000 in
theorem readName_any {b : Nat} {a d : Int} {cl br : Nat → Int} (c : Int) (w : World) (h : Rd w b a d cl br) :
    Calls Try.prog 87 #[.pointer (some ⟨b, 0, none⟩), .int .u8 c] w fun e w' =>
      (cN c = false ∧ e = .returned (.int .i64 2) ∧ w' = w) ∨ (cN c = true ∧ e = .returned (.int .i64 0) ∧ Rd w' b 1 d cl br ∧ Below b w w') := by
  have c0 := h.wants
  have f0 := h.froz 0 (by omega)
  by_cases hb : cN c = true
  case neg =>
    have hb' : Hid (cN c = false) := hide (by simpa using hb)
    clear hb
    go_enter Try.func87, Try.ntmps87
    go_wp2_with (go_at_call 51; refine (isName_any _ _).mono ?_; rintro e w' ⟨rfl, rfl⟩; rw [unhide hb'])
    go_ret; exact .inl ⟨unhide hb', rfl, rfl⟩
  case pos =>
    have hb' := hide hb
    clear hb
    go_enter Try.func87, Try.ntmps87
    go_wp2_with (go_at_call 51; refine (isName_any _ _).mono ?_; rintro e w' ⟨rfl, rfl⟩; rw [unhide hb'])
    go_ret; exact .inr ⟨unhide hb', rfl, h.setWants 1, bset (Below.refl _ _) (Nat.le_refl _) _ _⟩

set_option maxHeartbeats 400000 in
theorem readEquals_any {b : Nat} {a d : Int} {cl br : Nat → Int} (c : Int) (w : World) (h : Rd w b a d cl br) :
    Calls Try.prog 88 #[.pointer (some ⟨b, 0, none⟩), .int .u8 c] w fun e w' =>
      (c ≠ 61 ∧ e = .returned (.int .i64 2) ∧ w' = w) ∨ (c = 61 ∧ e = .returned (.int .i64 0) ∧ Rd w' b 2 d cl (upd br 0 0) ∧ Below b w w') := by
  have c0 := h.wants
  have f0 := h.froz 0 (by omega)
  have c1 := h.bar 0 (by omega)
  have f1 := h.froz 7 (by omega)
  by_cases hb : c = 61
  · go_enter Try.func88, Try.ntmps88
    go_wp2
    go_ret; exact .inr ⟨hb, rfl, (h.setWants 2).setBar 0 (by omega) 0, bset (bset (Below.refl _ _) (Nat.le_refl _) _ _) (Nat.le_refl _) _ _⟩
  · have hb2 : (c != 61) = true := by simp [hb]
    go_enter Try.func88, Try.ntmps88
    go_wp2
    go_ret; exact .inl ⟨hb, rfl, rfl⟩

set_option maxHeartbeats 400000 in
theorem readEnd_any {b : Nat} {a d : Int} {cl br : Nat → Int} (w : World) (h : Rd w b a d cl br) (hd : 0 ≤ d) :
    Calls Try.prog 112 #[.pointer (some ⟨b, 0, none⟩)] w fun e w' =>
      (0 < d ∧ e = .returned (.int .i64 2) ∧ w' = w) ∨ (d = 0 ∧ e = .returned (.int .i64 0) ∧ Rd w' b 0 d cl br ∧ Below b w w') := by
  have c0 := h.wants
  have c1 := h.deep
  have f0 := h.froz 0 (by omega)
  by_cases hb : 0 < d
  · go_enter Try.func112, Try.ntmps112
    go_wp2
    go_ret; exact .inl ⟨hb, rfl, rfl⟩
  · go_enter Try.func112, Try.ntmps112
    go_wp2
    go_ret; exact .inr ⟨by omega, rfl, h.setWants 0, bset (Below.refl _ _) (Nat.le_refl _) _ _⟩

set_option maxHeartbeats 400000 in
theorem readOpening_no {b : Nat} {a d : Int} {cl br : Nat → Int} (c : Int) (w : World) (h : Rd w b a d cl br) (hd : 5 ≤ d) :
    Calls Try.prog 109 #[.pointer (some ⟨b, 0, none⟩), .int .u8 c] w fun e w' => e = .returned (.int .i64 4) ∧ w' = w := by
  have c1 := h.deep
  go_enter Try.func109, Try.ntmps109
  go_wp2
  go_ret; exact ⟨rfl, rfl⟩

set_option maxHeartbeats 400000 in
theorem readOpening_yes {b : Nat} {a : Int} {k : Nat} {cl br : Nat → Int} (c : Int) (w : World) (h : Rd w b a k cl br) (hd : k < 5) :
    Calls Try.prog 109 #[.pointer (some ⟨b, 0, none⟩), .int .u8 c] w fun e w' =>
      e = .returned (.int .i64 0) ∧ Rd w' b a ((k : Int) + 1) (upd cl k (cC c)) (upd br (k + 1) 0) ∧ Below b w w' := by
  have c1 := h.deep
  have f1 := h.froz 1 (by omega)
  have c2 := h.clo k hd
  have f2 := h.froz (2 + k) (by omega)
  have hk1 : (k : Int) < 5 := by omega
  have c3 := h.bar (k + 1) (by omega)
  have f3 := h.froz (7 + (k + 1)) (by omega)
  go_enter Try.func109, Try.ntmps109
  go_wp2
  go_region_with (go_at_call 78; refine (closing_any _ _).mono ?_; rintro e w' ⟨rfl, rfl⟩)
  all_goals go_wp2
  all_goals go_region
  all_goals (go_wp2; go_ret; exact ⟨rfl, (((h.setClo k hd (cC c)).setDeep ((k : Int) + 1)).setBar (k + 1) (by omega) 0).drew.drew, (bset (bset (bset (Below.refl _ _) (Nat.le_refl _) _ _) (Nat.le_refl _) _ _) (Nat.le_refl _) _ _).drew.drew⟩)

set_option maxHeartbeats 400000 in
theorem readClosing_zero {b : Nat} {a : Int} {cl br : Nat → Int} (c : Int) (w : World) (h : Rd w b a 0 cl br) :
    Calls Try.prog 110 #[.pointer (some ⟨b, 0, none⟩), .int .u8 c] w fun e w' => e = .returned (.int .i64 2) ∧ Below b w w' := by
  have c1 := h.deep
  go_enter Try.func110, Try.ntmps110
  go_wp2_with fail
  go_quiet (fail)
  go_wp2
  go_ret; exact ⟨rfl, below_drewN (Below.refl _ _) _⟩

set_option maxHeartbeats 400000 in
theorem readClosing_other {b : Nat} {a : Int} {k : Nat} {cl br : Nat → Int} (c : Int) (w : World) (h : Rd w b a ((k : Int) + 1) cl br) (hk : k < 5) (hc : cl k ≠ c) :
    Calls Try.prog 110 #[.pointer (some ⟨b, 0, none⟩), .int .u8 c] w fun e w' => e = .returned (.int .i64 2) ∧ Below b w w' := by
  have c1 := h.deep
  have c2 := h.clo k hk
  have hk1 : (k : Int) < 5 := by omega
  have hk2 : (((k : Int) + 1) == 0) = false := by simp; omega
  have hc2 : (cl k != c) = true := by simp [hc]
  go_enter Try.func110, Try.ntmps110
  go_wp2_with fail
  go_quiet (fail)
  go_wp2
  go_ret; exact ⟨rfl, below_drewN (Below.refl _ _) _⟩

set_option maxHeartbeats 400000 in
theorem readClosing_yes {b : Nat} {a : Int} {k : Nat} {cl br : Nat → Int} (c : Int) (w : World) (h : Rd w b a ((k : Int) + 1) cl br) (hk : k < 5) (hc : cl k = c) :
    Calls Try.prog 110 #[.pointer (some ⟨b, 0, none⟩), .int .u8 c] w fun e w' => e = .returned (.int .i64 0) ∧ Rd w' b a k cl br ∧ Below b w w' := by
  subst hc
  have c1 := h.deep
  have f1 := h.froz 1 (by omega)
  have c2 := h.clo k hk
  have hk1 : (k : Int) < 5 := by omega
  have hk2 : (((k : Int) + 1) == 0) = false := by simp; omega
  go_enter Try.func110, Try.ntmps110
  go_wp2_with fail
  go_quiet (fail)
  go_wp2
  go_ret
  exact ⟨rfl, (h.drewN _).setDeep k, bset (below_drewN (Below.refl _ _) _) (Nat.le_refl _) _ _⟩

set_option maxHeartbeats 400000 in
theorem readBar_no {b : Nat} {a : Int} {k : Nat} {cl br : Nat → Int} (w : World) (h : Rd w b a k cl br) (hk : k < 6) (hc : 9 ≤ br k) (hc2 : br k ≤ 10) :
    Calls Try.prog 111 #[.pointer (some ⟨b, 0, none⟩)] w fun e w' => e = .returned (.int .i64 3) ∧ Below b w w' := by
  have c1 := h.deep
  have c2 := h.bar k hk
  have hk1 : (k : Int) < 6 := by omega
  go_enter Try.func111, Try.ntmps111
  go_wp2_with fail
  go_quiet (fail)
  go_wp2
  go_ret; exact ⟨rfl, below_drewN (Below.refl _ _) _⟩

set_option maxHeartbeats 400000 in
theorem readBar_yes {b : Nat} {a : Int} {k : Nat} {cl br : Nat → Int} (w : World) (h : Rd w b a k cl br) (hk : k < 6) (hc : br k < 9) (hc2 : 0 ≤ br k) :
    Calls Try.prog 111 #[.pointer (some ⟨b, 0, none⟩)] w fun e w' => e = .returned (.int .i64 0) ∧ Rd w' b a k cl (upd br k (br k + 1)) ∧ Below b w w' := by
  have c1 := h.deep
  have c2 := h.bar k hk
  have f2 := h.froz (7 + k) (by omega)
  have hk1 : (k : Int) < 6 := by omega
  go_enter Try.func111, Try.ntmps111
  go_wp2_with fail
  go_quiet (fail)
  go_wp2
  go_region
  all_goals (go_wp2; go_ret; exact ⟨rfl, (h.drewN _).setBar k hk (br k + 1), bset (below_drewN (Below.refl _ _) _) (Nat.le_refl _) _ _⟩)
end Go.Proofs.Ytnfaiaoipeholaa
