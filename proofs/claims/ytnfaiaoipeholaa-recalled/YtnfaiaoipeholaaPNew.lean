/- The program's guide: how it is made. -/
import Derived.Test.YtnfaiaoipeholaaPGuide
import Derived.Test.YtnfaiaoipeholaaCells
import Derived.Deep.MidRow
namespace Go.Proofs.Ytnfaiaoipeholaa
open Go.RowKit

/-- a guide in memory that may be written -/
structure Gw (w : World) (b : Nat) (s : ByteArray) (m : Int) (P : Nat → Int) : Prop extends Gd w b s m P where
  frz : ∀ i, i < 26 → w.frozen? ⟨b, 2 + i, none⟩ = false
theorem Gw.set {w : World} {b : Nat} {s : ByteArray} {m : Int} {P : Nat → Int} (h : Gw w b s m P) {i : Nat} (hi : i < 26) (x : Int) : Gw (w.setCell ⟨b, 2 + i, none⟩ (.int .i64 x)) b s m (nmU P i x) := by
  refine ⟨⟨?_, ?_, fun j hj => ?_⟩, fun j hj => by rw [World.frozen?_setCell]; exact h.frz j hj⟩
  · rw [World.cell?_setCell_other w _ _ _ (fun e => by injection e with _ e; omega)]; exact h.gram
  · rw [World.cell?_setCell_other w _ _ _ (fun e => by injection e with _ e; omega)]; exact h.most
  · by_cases e : j = i
    · subst e
      rw [World.cell?_setCell_same w _ _ (h.low j hj)]; simp [nmU]
    · rw [World.cell?_setCell_other w _ _ _ (fun e2 => e (by injection e2 with _ e4; omega)), h.low j hj]; simp [nmU, e]
theorem Gw.congr {w : World} {b : Nat} {s : ByteArray} {m : Int} {P P' : Nat → Int} (h : Gw w b s m P) (e : ∀ i, i < 26 → P i = P' i) : Gw w b s m P' :=
  ⟨⟨h.gram, h.most, fun i hi => by rw [← e i hi]; exact h.low i hi⟩, h.frz⟩

set_option maxHeartbeats 400000 in
theorem alternatives_none {s : ByteArray} {m : Int} {P : Nat → Int} (left : Int) (b : Nat) (w : World) (_gd : Gd w b s m P) :
    Calls Try.prog 96 #[.pointer (some ⟨b, 0, none⟩), .int .i64 (-1), .int .i64 left, .int .i64 10] w fun e w' => e = .returned (.int .i64 0) ∧ w' = w := by
  go_enter Try.func96, Try.ntmps96
  go_wp2
  go_loop [9, 10, 11] (fun wv pv i => i = .int .i64 0 ∧ pv = .int .i64 (-1) ∧ wv = .int .i64 0) (fun _ _ i => 0)
  case atStart => exact ⟨rfl, rfl, rfl⟩
  case round =>
    obtain ⟨rfl, rfl, rfl⟩ := hrel
    go_wp2
    go_ret
    exact ⟨rfl, rfl⟩
set_option maxHeartbeats 400000 in
theorem expressionFits_none {s : ByteArray} {m : Int} {P : Nat → Int} (left : Int) (b : Nat) (w : World) (gd : Gd w b s m P) :
    Calls Try.prog 63 #[.pointer (some ⟨b, 0, none⟩), .int .i64 (-1), .int .i64 left] w fun e w' => e = .returned (.bool false) ∧ w' = w := by
  go_enter Try.func63, Try.ntmps63
  go_wp2_with (go_at_call 96; refine (alternatives_none left b _ gd).mono ?_; rintro e w' ⟨rfl, rfl⟩)
  go_ret; exact ⟨rfl, rfl⟩

/-- the heights while those of one height are found -/
def pwK (s : ByteArray) (h k : Nat) (i : Nat) : Int := if i < k then pw s (h + 1) i else pw s h i
theorem pwK_fit {s : ByteArray} {h k : Nat} (hh : h ≤ 8) : nmP (pwK s h k) h = fun j => decide (pw s h j < h) := by
  funext j
  unfold nmP pwK
  split
  · rw [pw_succ]
    split
    · rename_i hc
      rw [hc.1, Bool.eq_iff_iff]; simp only [decide_eq_true_eq]; omega
    · rfl
  · rfl

set_option maxHeartbeats 1000000 in
theorem findLowest_any {s : ByteArray} {m : Int} (g : Gram s) (ten : Ten s) (h b : Nat) (w : World) (hh : h ≤ 8) (hq : Int) (eh : hq = h) (gd : Gw w b s m (pw s h)) :
    Calls Try.prog 58 #[.pointer (some ⟨b, 0, none⟩), .int .i64 hq] w fun e w' => e = .returned (.tuple #[]) ∧ Gw w' b s m (pw s (h + 1)) ∧ Below b w w' := by
  subst eh
  have hs := g.small
  go_enter Try.func58, Try.ntmps58
  go_wp2
  go_loopw [4] (fun iv wr => ∃ k : Nat, iv = .int .i64 k ∧ k ≤ 26 ∧ Hid (Gw wr b s m (pwK s h k)) ∧ Hid (Below b w wr)) (fun iv _ => 30 - (intOf iv).toNat)
  case atStart => exact ⟨0, rfl, Nat.zero_le _, hide (gd.congr (fun i _ => by simp [pwK])), hide (Below.refl _ _)⟩
  case round =>
    obtain ⟨k, rfl, hk, hI, hB⟩ := hrel
    by_cases hlt : k < 26
    · have c0 := (unhide hI).gram
      have c1 := (unhide hI).low k hlt
      have f1 := (unhide hI).frz k hlt
      have hpk : pwK s h k k = pw s h k := by unfold pwK; rw [if_neg (by omega)]
      rw [hpk] at c1
      have hI' : ∀ v : Int, v = pw s (h + 1) k → ∀ w2, Gw w2 b s m (nmU (pwK s h k) k v) → Gw w2 b s m (pwK s h (k + 1)) := fun v hv w2 hg => hg.congr (fun i _ => by
        unfold nmU pwK
        by_cases e : i = k
        · subst e; rw [if_pos rfl, if_pos (by omega), hv]
        · rw [if_neg e]
          by_cases e2 : i < k
          · rw [if_pos e2, if_pos (by omega)]
          · rw [if_neg e2, if_neg (by omega)])
      have hK : pw s (h + 1) k = pw s h k → Gw wr b s m (pwK s h (k + 1)) := fun hv => (unhide hI).congr (fun i _ => by
        unfold pwK
        by_cases e : i = k
        · subst e; rw [if_neg (by omega), if_pos (by omega), hv]
        · by_cases e2 : i < k
          · rw [if_pos e2, if_pos (by omega)]
          · rw [if_neg e2, if_neg (by omega)])
      have hbd := pw_bd s h k (by omega)
      by_cases hr : rl s (65 + k : Nat) = -1
      · have hv : pw s (h + 1) k = pw s h k := by rw [pw_succ, if_neg (fun hc => hc.2.1 hr)]
        have HK := hide (hK hv)
        have HR : Hid (rl s (65 + (k : Int)) = -1) := hide (by rw [show (65 + (k : Int)) = ((65 + k : Nat) : Int) by omega]; exact hr)
        clear hI' hK hv hr hpk
        by_cases h9 : pw s h k = 9
        · have h9' : (pw s h k == 9) = true := by simp [h9]
          clear h9
          go_wp2_with (first | (go_at_call 53; refine (expression_none s _ _ hs (unhide HR)).mono ?_; rintro e w' ⟨rfl, hw⟩; replace hw := hw.symm; subst hw) | (go_at_call 63; refine (expressionFits_none _ b _ (unhide hI).toGd).mono ?_; rintro e w' ⟨rfl, hw⟩; replace hw := hw.symm; subst hw))
          go_roundw
          case rel => exact ⟨k + 1, by go_num, by omega, HK, hB⟩
          case measure => simp [intOf]; omega
        · have h9' : (pw s h k == 9) = false := by simp [h9]
          clear h9
          go_wp2_with (first | (go_at_call 53; refine (expression_none s _ _ hs (unhide HR)).mono ?_; rintro e w' ⟨rfl, hw⟩; replace hw := hw.symm; subst hw))
          go_roundw
          case rel => exact ⟨k + 1, by go_num, by omega, HK, hB⟩
          case measure => simp [intOf]; omega
      · have hb0 := rl_bd s (65 + k : Nat)
        obtain ⟨j, hj⟩ : ∃ j : Nat, rl s (65 + k : Nat) = (j : Int) := ⟨(rl s (65 + k : Nat)).toNat, by omega⟩
        have hjs : j < s.size := by omega
        obtain ⟨hbg, hbj⟩ := rlF_spec s (65 + k : Nat) s.size 0 j hj
        have hrule := g.rule j hjs hbg
        have hj2 : j + 2 ≤ s.size := hrule.2.2.1
        have ht := hide (ten.rule j hjs hbg)
        have HR : Hid (rl s (65 + (k : Int)) = (j : Int)) := hide (by rw [show (65 + (k : Int)) = ((65 + k : Nat) : Int) by omega]; exact hj)
        have hX : SaidG s m (pwK s h k) h (s.size + 1) := expressionFits_all ten hs _
        have hxe : (rl s (65 + k : Nat) + 2).toNat = j + 2 := by omega
        have hsucc := pw_succ s h k
        rw [hxe] at hsucc
        by_cases h9 : pw s h k = 9
        · have h9' : (pw s h k == 9) = true := by simp [h9]
          cases hx : expFit s (nmP (pwK s h k) h) (j + 2)
          · have hv : pw s (h + 1) k = pw s h k := by
              rw [hsucc, if_neg]
              intro hc
              have := hc.2.2
              rw [← pwK_fit (k := k) hh, hx] at this; cases this
            have HK := hide (hK hv)
            have HX := hide hx
            clear hI' hK hv hr hpk h9 hb0 hj hbg hbj hrule hxe hsucc hx
            go_wp2_with (first | (go_at_call 53; refine (expression_any s _ j _ hs (unhide HR) hjs).mono ?_; rintro e w' ⟨rfl, hw⟩; replace hw := hw.symm; subst hw) | (go_at_call 63; refine (hX _ (j + 2) b _ (unhide hI).toGd (by go_num) hj2 (by omega) (unhide ht)).mono ?_; rintro e w' ⟨rfl, hw⟩; replace hw := hw.symm; subst hw; rw [unhide HX]))
            go_roundw
            case rel => exact ⟨k + 1, by go_num, by omega, HK, hB⟩
            case measure => simp [intOf]; omega
          · have hv : (h : Int) = pw s (h + 1) k := by
              rw [hsucc, if_pos ⟨h9, hr, by rw [← pwK_fit (k := k) hh]; exact hx⟩]
            have HK := hide (hI' _ hv)
            have HX := hide hx
            clear hI' hK hv hr hpk h9 hb0 hj hbg hbj hrule hxe hsucc hx
            go_wp2_with (first | (go_at_call 53; refine (expression_any s _ j _ hs (unhide HR) hjs).mono ?_; rintro e w' ⟨rfl, hw⟩; replace hw := hw.symm; subst hw) | (go_at_call 63; refine (hX _ (j + 2) b _ (unhide hI).toGd (by go_num) hj2 (by omega) (unhide ht)).mono ?_; rintro e w' ⟨rfl, hw⟩; replace hw := hw.symm; subst hw; rw [unhide HX]))
            go_roundw
            case rel => exact ⟨k + 1, by go_num, by omega, hide (unhide HK _ ((unhide hI).set hlt _)), hide ((unhide hB).setCell (p := ⟨b, 2 + k, none⟩) (Nat.le_refl _) _)⟩
            case measure => simp [intOf]; omega
        · have h9' : (pw s h k == 9) = false := by simp [h9]
          have hv : pw s (h + 1) k = pw s h k := by rw [hsucc, if_neg (fun hc => h9 hc.1)]
          have HK := hide (hK hv)
          clear hI' hK hv hr hpk h9 hb0 hj hbg hbj hrule hxe hsucc
          go_wp2_with (first | (go_at_call 53; refine (expression_any s _ j _ hs (unhide HR) hjs).mono ?_; rintro e w' ⟨rfl, hw⟩; replace hw := hw.symm; subst hw))
          go_roundw
          case rel => exact ⟨k + 1, by go_num, by omega, HK, hB⟩
          case measure => simp [intOf]; omega
    · have hk26 : k = 26 := by omega
      subst hk26
      go_wp2
      go_end0
      exact ⟨rfl, (unhide hI).congr (fun i hi => by unfold pwK; rw [if_pos hi]), unhide hB⟩
end Go.Proofs.Ytnfaiaoipeholaa
