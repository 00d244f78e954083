/- PMakeA RLow RLows RMake -/
import Derived.Test.YtnfaiaoipeholaaGreatDoorAa11
import Derived.Test.YtnfaiaoipeholaaGreatDoorAa08
import Derived.Test.YtnfaiaoipeholaaGreatDoorAa06
import Derived.Test.YtnfaiaoipeholaaGreatDoorAa02
import Derived.Deep.RegionHeld
import Derived.Laws.BytesArg
import Derived.Test.YtnfaiaoipeholaaGreatDoorAa07
namespace Go.Proofs.YtnfaiaoipeholaaGreatDoor
open Go.RowKit
set_option maxHeartbeats 400000 in
set_option maxRecDepth 1000000 in
theorem pMake_any {s c : ByteArray} (g : Gram s) (ten : Ten s) (h m : Int) (w : World) (hc : c.size ≤ maxLen) :
    Calls Tryz.prog 23 #[.string s, .string c, .int .i64 h, .int .i64 m] w fun e w' => e = .returned (.tuple #[.string (mkR s c h m).1, .int .i64 (mkR s c h m).2]) ∧ Below w.heap.size w w' := by
  by_cases h1 : 2000 < c.size ∨ digs c = false
  · have hA : Hid ((decide (¬ (2000 < c.size)) && digs c) = false) := hide (by rcases h1 with h1 | h1 <;> simp [h1])
    have e : mkR s c h m = (⟨#[]⟩, 8) := by unfold mkR; rw [if_pos h1]
    rw [e]
    clear h1 e
    go_enter Tryz.func23, Tryz.ntmps23
    go_wp2_with (go_at_call 49; refine (areChoices_any _ _ hc).mono ?_; rw [unhide hA]; rintro e w' ⟨rfl, hw⟩; replace hw := hw.symm; subst hw)
    go_ret2
    exact ⟨rfl, Below.refl _ _⟩
  · have h2 : digs c = true := by
      cases e : digs c
      · exact absurd (.inr e) h1
      · rfl
    have h3 : ¬ 2000 < c.size := fun e => h1 (.inl e)
    by_cases hl : 1 ≤ h ∧ h ≤ 9 ∧ 1 ≤ m ∧ m ≤ 5
    · obtain ⟨k, rfl⟩ : ∃ k : Nat, h = k := ⟨h.toNat, by omega⟩
      obtain ⟨j, rfl⟩ : ∃ j : Nat, m = j := ⟨m.toNat, by omega⟩
      exact pMake_ok g ten k j w hc h3 h2 (by omega) (by omega)
    · have hA : Hid ((decide (¬ (2000 < c.size)) && digs c) = true) := hide (by simp [h2, h3])
      have hL : Hid (decide (1 ≤ h ∧ h ≤ 9 ∧ 1 ≤ m ∧ m ≤ 5) = false) := hide (by simp only [decide_eq_false_iff_not]; exact hl)
      have e : mkR s c h m = (⟨#[]⟩, 9) := by unfold mkR; rw [if_neg h1, if_pos hl]
      rw [e]
      clear h1 e h2 h3 hl
      go_enter Tryz.func23, Tryz.ntmps23
      go_wp2_with (first
        | (go_at_call 49; refine (areChoices_any _ _ hc).mono ?_; rw [unhide hA]; rintro e w' ⟨rfl, hw⟩; replace hw := hw.symm; subst hw)
        | (go_at_call 50; refine (areLimits_any _ _ _).mono ?_; rw [unhide hL]; rintro e w' ⟨rfl, hw⟩; replace hw := hw.symm; subst hw))
      go_ret2
      exact ⟨rfl, Below.refl _ _⟩
section
variable {s c : ByteArray}
set_option maxHeartbeats 400000 in
set_option maxRecDepth 1000000 in
theorem make_any (h m : Int) (w : World) (hs : s.size ≤ maxLen) (hc : c.size ≤ maxLen) :
    Calls Tryz.prog 9 #[.string s, .string c, .int .i64 h, .int .i64 m] w fun e w' => e = .returned (.tuple #[.string (mk s c h m).1, .int .i64 (mk s c h m).2]) ∧ Below w.heap.size w w' := by
  by_cases hk : (chk s).1 = 0
  · have e : mk s c h m = mkR s c h m := by unfold mk; rw [if_neg (by simp [hk])]
    rw [e]
    have h' : ((chk s).1 != 0) = false := by simp [hk]
    have G := hide (gram_of hk); have TN := hide (ten_chk hk); clear hk e
    generalize hR : mkR s c h m = R
    have HR := hide hR; clear hR
    go_enter Tryz.func9, Tryz.ntmps9
    go_wp2_with (first | (go_at_call 21; refine (rcheck_any _ _ hs).mono ?_; rintro e w1 ⟨rfl, hb1⟩) | (go_at_call 23; refine (pMake_any (unhide G) (unhide TN) _ _ _ hc).mono ?_; rw [unhide HR]; rintro e w2 ⟨rfl, hb2⟩))
    go_ret2; exact ⟨rfl, hb1.trans (hb2.mono hb1.size)⟩
  · have e : mk s c h m = (⟨#[]⟩, (chk s).1) := by unfold mk; rw [if_pos hk]
    rw [e]
    have h' : ((chk s).1 != 0) = true := by simp [hk]
    clear hk e
    go_enter Tryz.func9, Tryz.ntmps9
    go_wp2_with (first | (go_at_call 21; refine (rcheck_any _ _ hs).mono ?_; rintro e w1 ⟨rfl, hb1⟩))
    go_ret2; exact ⟨rfl, hb1⟩
end
end Go.Proofs.YtnfaiaoipeholaaGreatDoor

namespace Go.Proofs.YtnfaiaoipeholaaGreatDoor
open Go.RowKit

/-- what a region that draws may lean on: nothing old has turned; a cell; the array -/
theorem keepA {wr w2 : World} {ga o nb : Nat} {u : Value} {cs : List Value} (h : Below wr.heap.size wr w2) (e1 : wr.cell? ⟨ga, o, none⟩ = some u) (hr : wr.rangeAt nb 0 cs) :
    Below wr.heap.size wr w2 ∧ w2.cell? ⟨ga, o, none⟩ = some u ∧ w2.rangeAt nb 0 cs :=
  ⟨h, (h.cell (p := ⟨ga, o, none⟩) (World.block_lt_of_cell? wr _ e1)).trans e1, range_below hr h⟩

def SaidL (s : ByteArray) (nm : Nat → Int) (B m : Nat) : Prop :=
  ∀ (p x : Nat) (w : World), B ≤ w.heap.size → EA w s m (fun b => b < B) p x →
    Calls Tryz.prog 70 #[.pointer (some ⟨p, 0, none⟩), .agg (nms nm).toArray] w fun e w' => e = .returned (.int .i64 (low s nm x)) ∧ Below w.heap.size w w'
def SaidA (s : ByteArray) (nm : Nat → Int) (B m : Nat) : Prop :=
  ∀ (v : Value) (L : List Nat) (w : World), B ≤ w.heap.size → L.length ≤ 300 → (∀ f ∈ L, isF s f = true) → AAt w (EA w s m (fun b => b < B)) (fun b => b < B) s v L →
    Calls Tryz.prog 128 #[v, .agg (nms nm).toArray] w fun e w' => e = .returned (.int .i64 (altH s nm (low s nm) L)) ∧ Below w.heap.size w w'

theorem topH_snoc (s : ByteArray) (nm rec : Nat → Int) (L : List Nat) (f : Nat) (top : Int) : topH s nm rec (f :: L) top = topH s nm rec L (max top (facH s nm rec f)) := rfl

set_option maxHeartbeats 1000000 in
set_option maxRecDepth 1000000 in
theorem alt_any {s : ByteArray} {nm : Nat → Int} (hnm : Nms nm) {B m : Nat} (hL : SaidL s nm B m) : SaidA s nm B m := by
  intro v L w hB hlen hmem hA
  obtain ⟨ao, ca, rfl, hfac⟩ := hA
  have hlb := low_bd (s := s) hnm
  have HF := hide hfac
  have HM := hide hmem
  generalize hR : altH s nm (low s nm) L = R
  have HR := hide hR
  clear hfac hmem hR
  go_enter Tryz.func128, Tryz.ntmps128
  go_wp2
  go_loopw [5, 6] (fun tv iv wr => ∃ (k : Nat) (top : Int), tv = .int .i64 top ∧ iv = .int .i64 k ∧ k ≤ L.length ∧ 0 ≤ top ∧ top ≤ 100 ∧ Below (w.heap.size + 1) (w.alloc (.cells (nms nm).toArray 57)) wr ∧ Hid (topH s nm (low s nm) L 0 = topH s nm (low s nm) (L.drop k) top)) (fun _ iv _ => 400 - (intOf iv).toNat)
  case atStart => exact ⟨0, 0, rfl, rfl, Nat.zero_le _, by omega, by omega, Below.refl _ _, hide rfl⟩
  case round =>
    obtain ⟨k, top, rfl, rfl, hk, ht0, ht1, hb, hN⟩ := hrel
    have hsz := hb.size
    have hsz' : w.heap.size < wr.heap.size := by have := hsz; simp at this; omega
    have hbw : Below w.heap.size w wr := ((Below.refl _ _).alloc (Nat.le_refl _) _).trans (hb.mono (by omega))
    have hrg : wr.rangeAt w.heap.size 0 (nms nm) := range_below (range_alloc w (nms nm) _) (by simpa using hb)
    have HRG := hide hrg
    have HBW := hide hbw
    have HB := hide hb
    by_cases hkl : k < L.length
    · obtain ⟨ga, rfl, hga, hF1, hF2⟩ := unhide HF k hkl
      have hfm := unhide HM (L.getD k 0) (by rw [List.getD_eq_getElem?_getD, List.getElem?_eq_getElem hkl]; simp)
      have hdrop : L.drop k = L.getD k 0 :: L.drop (k + 1) := by
        rw [List.drop_eq_getElem_cons hkl, List.getD_eq_getElem?_getD, List.getElem?_eq_getElem hkl]; rfl
      have hN2 := unhide hN
      rw [hdrop, topH_snoc] at hN2
      clear hN hdrop
      generalize L.getD k 0 = f at *
      have hgal : ga < w.heap.size := Nat.lt_of_lt_of_le hga hB
      have e0 := (hbw.cell (p := ⟨ga, k * 2, none⟩) hgal).trans hF1
      have hfb := facH_bd (s := s) hnm hlb f
      by_cases hcN : cN (bt s f) = true
      · have hv : 65 ≤ bt s f ∧ bt s f ≤ 90 := by simpa [cN] using hcN
        obtain ⟨hv1, hv2⟩ := hv
        have hfe : facH s nm (low s nm) f = nm (bt s f - 65).toNat + 1 := by unfold facH; rw [if_pos hcN]
        rw [hfe] at hN2 hfb
        have c1 := hrg (bt s f - 65).toNat _ (nms_at nm _ (by omega))
        rw [Nat.zero_add] at c1
        have hn1 := hnm (bt s f - 65).toNat
        obtain ⟨hn1, hn2⟩ := hn1
        have hix : bt s f - 65 < 26 := by omega
        have hix0 : 0 ≤ bt s f - 65 := by omega
        have HN := hide hN2
        have HC := hide hcN
        clear hN2 hcN hF2 hF1 hrg hbw hb hfe
        go_wp2_with (first | (go_at_call 31; refine (name_any _ _).mono ?_; rintro e w' ⟨rfl, hw⟩; replace hw := hw.symm; subst hw; rw [unhide HC]) | (go_at_call 158; refine (higher_any _ _ _).mono ?_; rintro e w' ⟨rfl, hw⟩; replace hw := hw.symm; subst hw))
        go_roundw
        case rel => exact ⟨k + 1, max top (nm (bt s f - 65).toNat + 1), rfl, by go_num, by omega, by omega, by omega, unhide HB, hide (unhide HN)⟩
        case measure => simp [intOf]; omega
      · have hcNf : cN (bt s f) = false := by simpa using hcN
        by_cases hkd : bt s f = 40 ∨ bt s f = 60
        · have hcO : cO (bt s f) = true := by rcases hkd with e | e <;> rw [e] <;> decide
          rcases hF2 with ⟨q1, _⟩ | ⟨_, p', q2, q3⟩
          · rw [q1] at hcO; cases hcO
          have hfe : facH s nm (low s nm) f = low s nm (f + 1) := by unfold facH; rw [if_neg hcN, if_pos hkd]
          rw [hfe] at hN2 hfb
          have e1 := (hbw.cell (p := ⟨ga, k * 2 + 1, none⟩) hgal).trans q2
          have HE := hide (q3.below hbw hB)
          have HN := hide hN2
          have HC := hide hcNf
          have hcase : Hid ((bt s f == 40) = true ∨ (bt s f == 40) = false ∧ (bt s f == 60) = true) := hide (by
            by_cases e : bt s f = 40
            · exact .inl (by simp [e])
            · exact .inr ⟨by simp [e], by simp; omega⟩)
          clear hN2 hcN hcNf hF1 q2 q3 hrg hbw hb hfe hkd hcO
          rcases unhide hcase with h40 | ⟨h40, h60⟩
          all_goals
            go_wp2_with (go_at_call 31; refine (name_any _ _).mono ?_; rintro e w' ⟨rfl, hw⟩; replace hw := hw.symm; subst hw; rw [unhide HC])
            have hu := Tryz.underlying57
            have hin : (Tryz.prog.info? 57).map (·.size) = some (nms nm).length := by rw [nms_len]; exact Tryz.infoArr
            have hnl := nms_len nm
            have hno := nms_one nm
            go_region_held (fun w' => Below wr.heap.size wr w' ∧ w'.cell? ⟨ga, k * 2 + 1, none⟩ = some (.pointer (some ⟨p', 0, none⟩)) ∧ w'.rangeAt w.heap.size 0 (nms nm)) (first | exact keepA ((Below.refl _ _).drew) e1 (unhide HRG) | exact keepA (((Below.refl wr.heap.size wr).drew).trans hb2) e1 (unhide HRG)) (first | (go_at_call 70; refine (hL p' (f + 1) _ ?_ ?_).mono ?_; exact Nat.le_trans hB (unhide HBW).size; exact (unhide HE).below ((Below.refl _ _).drew) (Nat.le_trans hB (unhide HBW).size); rintro e w2 ⟨rfl, hb2⟩))
            have HB2 := hide hb2
            clear hu hin hnl hno hb2
            go_wp2_with (go_at_call 158; refine (higher_any _ _ _).mono ?_; rintro e w' ⟨rfl, hw⟩; replace hw := hw.symm; subst hw)
            go_roundw
            case rel => exact ⟨k + 1, max top (low s nm (f + 1)), rfl, by go_num, by omega, by omega, by omega, ((unhide HB).drew).trans ((unhide HB2).mono (by show w.heap.size + 1 ≤ wr.heap.size; omega)), hide (unhide HN)⟩
            case measure => simp [intOf]; omega
        · have hfe : facH s nm (low s nm) f = 0 := by unfold facH; rw [if_neg hcN, if_neg hkd]
          rw [hfe] at hN2
          have HN := hide hN2
          have HC := hide hcNf
          have h40 : (bt s f == 40) = false := by simp only [beq_eq_false_iff_ne]; omega
          have h60 : (bt s f == 60) = false := by simp only [beq_eq_false_iff_ne]; omega
          clear hN2 hcN hcNf hF1 hF2 hrg hbw hb hfe hkd
          go_wp2_with (first | (go_at_call 31; refine (name_any _ _).mono ?_; rintro e w' ⟨rfl, hw⟩; replace hw := hw.symm; subst hw; rw [unhide HC]) | (go_at_call 158; refine (higher_any _ _ _).mono ?_; rintro e w' ⟨rfl, hw⟩; replace hw := hw.symm; subst hw))
          go_roundw
          case rel => exact ⟨k + 1, max top 0, rfl, by go_num, by omega, by omega, by omega, unhide HB, hide (unhide HN)⟩
          case measure => simp [intOf]; omega
    · have hN2 := unhide hN
      rw [List.drop_eq_nil_of_le (by omega)] at hN2
      have hR := unhide HR
      unfold altH at hR
      rw [hN2] at hR
      have e : topH s nm (low s nm) [] top = top := rfl
      rw [e] at hR
      clear hN hN2 e hrg hbw hb
      by_cases h99 : 99 < top
      · rw [if_pos h99] at hR
        subst hR
        go_wp2
        go_ret
        exact ⟨rfl, unhide HBW⟩
      · rw [if_neg h99] at hR
        subst hR
        go_wp2
        go_ret
        exact ⟨rfl, unhide HBW⟩

theorem minH_cons (s : ByteArray) (nm rec : Nat → Int) (a : Nat) (l : List Nat) (best : Int) : minH s nm rec (a :: l) best = minH s nm rec l (if altH s nm rec (fe s a).1 < best then altH s nm rec (fe s a).1 else best) := rfl
/-- one cell, another, and the array -/
theorem keepL {wr w2 : World} {p o g o2 nb : Nat} {u u2 : Value} {cs : List Value} (h : Below wr.heap.size wr w2) (e1 : wr.cell? ⟨p, o, none⟩ = some u) (e2 : wr.cell? ⟨g, o2, none⟩ = some u2) (hr : wr.rangeAt nb 0 cs) :
    Below wr.heap.size wr w2 ∧ w2.cell? ⟨p, o, none⟩ = some u ∧ w2.cell? ⟨g, o2, none⟩ = some u2 ∧ w2.rangeAt nb 0 cs :=
  ⟨h, (h.cell (p := ⟨p, o, none⟩) (World.block_lt_of_cell? wr _ e1)).trans e1, (h.cell (p := ⟨g, o2, none⟩) (World.block_lt_of_cell? wr _ e2)).trans e2, range_below hr h⟩

set_option maxHeartbeats 1000000 in
set_option maxRecDepth 1000000 in
theorem low_any {s : ByteArray} (hs : s.size ≤ 300) {nm : Nat → Int} (hnm : Nms nm) {B m : Nat} (hA : SaidA s nm B m) : SaidL s nm B (m + 1) := by
  intro p x w hB hE
  obtain ⟨hp, N, gv, cap, hN0, hN4, hcp, hgv, hNn, hall⟩ := hE
  have hlb := low_bd (s := s) hnm
  have hsts : (sts s x).length = N := by
    have h1 : (sts s x)[N]? = none := by rw [← sts_ap]; exact hNn
    have h2 : N ≤ (sts s x).length := by
      obtain ⟨a, _, h3, _⟩ := hall (N - 1) (by omega)
      rw [sts_ap] at h3
      have := (List.getElem?_eq_some_iff.1 h3).1
      omega
    have h3 := List.getElem?_eq_none_iff.1 h1
    omega
  have HS := hide hsts
  have HALL := hide hall
  generalize hR : low s nm x = R
  rw [low_step] at hR
  have HR := hide hR
  have hpl : p < w.heap.size := Nat.lt_of_lt_of_le hp hB
  have hgl : gv < w.heap.size := Nat.lt_of_lt_of_le hgv hB
  clear hNn hall hR hsts
  go_enter Tryz.func70, Tryz.ntmps70
  go_wp2
  go_loopw [5, 6] (fun tv iv wr => ∃ (k : Nat) (best : Int), tv = .int .i64 best ∧ iv = .int .i64 k ∧ k ≤ N ∧ 0 ≤ best ∧ best ≤ 99 ∧ Below (w.heap.size + 1) (w.alloc (.cells (nms nm).toArray 57)) wr ∧ Hid (R = minH s nm (low s nm) ((sts s x).drop k) best)) (fun _ iv _ => 500 - (intOf iv).toNat)
  case atStart => exact ⟨0, 99, rfl, rfl, Nat.zero_le _, by omega, by omega, Below.refl _ _, hide (unhide HR).symm⟩
  case round =>
    obtain ⟨k, best, rfl, rfl, hk, ht0, ht1, hb, hN⟩ := hrel
    have hsz := hb.size
    have hsz' : w.heap.size < wr.heap.size := by have := hsz; simp at this; omega
    have hbw : Below w.heap.size w wr := ((Below.refl _ _).alloc (Nat.le_refl _) _).trans (hb.mono (by omega))
    have HRG := hide (range_below (range_alloc w (nms nm) _) (by simpa using hb) : wr.rangeAt w.heap.size 0 (nms nm))
    have HBW := hide hbw
    have HB := hide hb
    have d0 := (hbw.cell (p := ⟨p, 0, none⟩) hpl).trans hcp
    by_cases hkl : k < N
    · obtain ⟨a, va, hap, hca, hAA⟩ := unhide HALL k hkl
      rw [sts_ap] at hap
      have hkl2 := (List.getElem?_eq_some_iff.1 hap).1
      have hka := (List.getElem?_eq_some_iff.1 hap).2
      have hdrop : (sts s x).drop k = a :: (sts s x).drop (k + 1) := by rw [List.drop_eq_getElem_cons hkl2, hka]
      have hN2 := unhide hN
      rw [hdrop, minH_cons] at hN2
      clear hN hdrop hap hka hkl2
      have d1 := (hbw.cell (p := ⟨gv, k, none⟩) hgl).trans hca
      have hab := altH_bd (s := s) hnm hlb (fe s a).1
      have hlen := fe_len s a
      have HMEM : Hid (∀ f ∈ (fe s a).1, isF s f = true) := hide (fun f hf => (fe_mem hf).1)
      have hwB : B ≤ wr.heap.size := Nat.le_trans hB hbw.size
      have HAA := hide (hAA.frame (w' := wr) (S' := fun b => b < B) (sub' := EA wr s m (fun b => b < B)) (fun b hbb => hbw.block b (Nat.lt_of_lt_of_le hbb hB)) (fun _ h => h) (fun p x h => h.below hbw hB))
      obtain ⟨ao, ca, rfl, _⟩ := hAA
      generalize hal : altH s nm (low s nm) (fe s a).1 = al at *
      have HAL := hide hal
      have HN := hide hN2
      clear hN2 hal hbw hb
      have HWB := hide hwB
      go_wp2
      have hu := Tryz.underlying57
      have hin : (Tryz.prog.info? 57).map (·.size) = some (nms nm).length := by rw [nms_len]; exact Tryz.infoArr
      have hnl := nms_len nm
      have hno := nms_one nm
      go_region_held (fun w' => Below wr.heap.size wr w' ∧ w'.cell? ⟨p, 0, none⟩ = some (.slice (some ⟨gv, 0, none⟩) N cap) ∧ w'.cell? ⟨gv, k, none⟩ = some (.slice ao (fe s a).1.length ca) ∧ w'.rangeAt w.heap.size 0 (nms nm)) (first | exact keepL ((Below.refl _ _).drew) d0 d1 (unhide HRG) | exact keepL (((Below.refl wr.heap.size wr).drew).trans hb2) d0 d1 (unhide HRG)) (first | (go_at_call 128; refine (hA _ (fe s a).1 _ ?_ ?_ (unhide HMEM) ?_).mono ?_; exact unhide HWB; omega; exact (unhide HAA).frame (fun _ _ => rfl) (fun _ h => h) (fun p x h => h.below ((Below.refl _ _).drew) (unhide HWB)); rw [unhide HAL]; rintro e w2 ⟨rfl, hb2⟩))
      have HB2 := hide hb2
      clear hu hin hnl hno hb2
      by_cases hlt : al < best
      · have hN3 := unhide HN
        rw [if_pos hlt] at hN3
        have HN3 := hide hN3
        clear hN3
        go_wp2
        go_roundw
        case rel => exact ⟨k + 1, al, rfl, by go_num, by omega, by omega, by omega, ((unhide HB).drew).trans ((unhide HB2).mono (by show w.heap.size + 1 ≤ wr.heap.size; omega)), hide (unhide HN3)⟩
        case measure => simp [intOf]; omega
      · have hN3 := unhide HN
        rw [if_neg hlt] at hN3
        have HN3 := hide hN3
        clear hN3
        go_wp2
        go_roundw
        case rel => exact ⟨k + 1, best, rfl, by go_num, by omega, by omega, by omega, ((unhide HB).drew).trans ((unhide HB2).mono (by show w.heap.size + 1 ≤ wr.heap.size; omega)), hide (unhide HN3)⟩
        case measure => simp [intOf]; omega
    · have hN2 := unhide hN
      rw [List.drop_eq_nil_of_le (by rw [unhide HS]; omega)] at hN2
      have e : minH s nm (low s nm) [] best = best := rfl
      rw [e] at hN2
      subst hN2
      clear hN e hbw hb
      go_wp2
      go_ret
      exact ⟨rfl, unhide HBW⟩

theorem low_all {s : ByteArray} (hs : s.size ≤ 300) {nm : Nat → Int} (hnm : Nms nm) {B : Nat} : ∀ m, SaidL s nm B m
  | 0 => fun _ _ _ _ hE => hE.elim
  | m + 1 => low_any hs hnm (alt_any hnm (low_all hs hnm m))
theorem alt_all {s : ByteArray} (hs : s.size ≤ 300) {nm : Nat → Int} (hnm : Nms nm) {B : Nat} (m : Nat) : SaidA s nm B m := alt_any hnm (low_all hs hnm m)
end Go.Proofs.YtnfaiaoipeholaaGreatDoor

namespace Go.Proofs.YtnfaiaoipeholaaGreatDoor
open Go.RowKit

/-- one name's height reckoned anew -/
def lowStep (s : ByteArray) (nm : Nat → Int) (i : Nat) : Nat → Int := if rl s (65 + i : Nat) = -1 then nm else nmU nm i (low s nm (rl s (65 + i : Nat) + 2).toNat)
def lowRow (s : ByteArray) (nm : Nat → Int) : Nat → Nat → Int
  | 0 => nm
  | n + 1 => lowStep s (lowRow s nm n) n
/-- all of them, again and again -/
def lowsF (s : ByteArray) : Nat → Nat → Int
  | 0 => fun _ => 99
  | r + 1 => lowRow s (lowsF s r) 26
theorem nms_step {s : ByteArray} {nm : Nat → Int} (h : Nms nm) (i : Nat) : Nms (lowStep s nm i) := by
  unfold lowStep; split
  · exact h
  · intro j; unfold nmU; split
    · exact low_bd h _
    · exact h j
theorem nms_row {s : ByteArray} {nm : Nat → Int} (h : Nms nm) : ∀ n, Nms (lowRow s nm n)
  | 0 => h
  | n + 1 => nms_step (nms_row h n) n
theorem nms_lows (s : ByteArray) : ∀ r, Nms (lowsF s r)
  | 0 => fun _ => by simp [lowsF]
  | r + 1 => nms_row (nms_lows s r) 26

/-- the two arrays of the call -/
structure LI (w0 w : World) (nb rb : Nat) (nm : Nat → Int) : Prop where
  rng : w.rangeAt nb 0 (nms nm)
  nth : w.there nb 0 26
  rth : w.there rb 0 26
  bel : Below w0.heap.size w0 w
theorem LI.below {w0 w w1 : World} {nb rb : Nat} {nm : Nat → Int} (h : LI w0 w nb rb nm) (hb : Below w.heap.size w w1) : LI w0 w1 nb rb nm := by
  have hth : ∀ b, w.there b 0 26 → w1.there b 0 26 := fun b hh j hj => by
    obtain ⟨h1, h2⟩ := hh j hj
    obtain ⟨u, hu⟩ := Option.isSome_iff_exists.1 h1
    have hlt := World.block_lt_of_cell? w _ hu
    exact ⟨by rw [hb.cell (p := ⟨b, 0 + j, none⟩) hlt]; exact h1, (hb.frozen (p := ⟨b, 0 + j, none⟩) hlt).trans h2⟩
  exact ⟨range_below h.rng hb, hth nb h.nth, hth rb h.rth, h.bel.trans (hb.mono h.bel.size)⟩
theorem LI.set {w0 w : World} {nb rb : Nat} {nm : Nat → Int} (h : LI w0 w nb rb nm) {i : Nat} (hi : i < 26) (x : Int) (hnb : w0.heap.size ≤ nb) (hne : nb ≠ rb) : LI w0 (w.setCell ⟨nb, i, none⟩ (.int .i64 x)) nb rb (nmU nm i x) := by
  have hs : ∀ b o, ((w.setCell ⟨nb, i, none⟩ (.int .i64 x)).cell? ⟨b, o, none⟩).isSome = true ↔ (w.cell? ⟨b, o, none⟩).isSome = true := fun b o => by
    by_cases e : b = nb ∧ o = i
    · obtain ⟨rfl, rfl⟩ := e
      have := h.rng o _ (nms_at nm o hi)
      rw [Nat.zero_add] at this
      rw [World.cell?_setCell_same w _ _ this, this]; simp
    · rw [World.cell?_setCell_other w _ _ _ (fun e2 => e (by injection e2 with e3 e4; exact ⟨e3.symm, e4.symm⟩))]
  have hth : ∀ b, w.there b 0 26 → (w.setCell ⟨nb, i, none⟩ (.int .i64 x)).there b 0 26 := fun b hh j hj => ⟨(hs b (0 + j)).2 (hh j hj).1, by rw [World.frozen?_setCell]; exact (hh j hj).2⟩
  refine ⟨fun j v hv => ?_, hth nb h.nth, hth rb h.rth, h.bel.setCell (p := ⟨nb, i, none⟩) hnb _⟩
  have hj : j < 26 := by
    have := (List.getElem?_eq_some_iff.1 hv).1; rw [nms_len] at this; exact this
  rw [nms_at _ j hj] at hv
  by_cases e : j = i
  · subst e
    have := h.rng j _ (nms_at nm j hj)
    rw [Nat.zero_add] at this ⊢
    rw [World.cell?_setCell_same w _ _ this]
    simpa [nmU] using hv
  · rw [World.cell?_setCell_other w _ _ _ (fun e2 => e (by injection e2 with e3 e4; omega))]
    have := h.rng j _ (nms_at nm j hj)
    rw [this]
    simpa [nmU, e] using hv
theorem LI.at_ {w0 w : World} {nb rb : Nat} {nm : Nat → Int} (h : LI w0 w nb rb nm) {i : Nat} (hi : i < 26) : w.cell? ⟨nb, i, none⟩ = some (.int .i64 (nm i)) ∧ w.frozen? ⟨nb, i, none⟩ = false := by
  have h1 := h.rng i _ (nms_at nm i hi)
  have h2 := (h.nth i hi).2
  rw [Nat.zero_add] at h1 h2
  exact ⟨h1, h2⟩
theorem LI.congr {w0 w : World} {nb rb : Nat} {nm nm' : Nat → Int} (h : LI w0 w nb rb nm) (e : ∀ i, i < 26 → nm i = nm' i) : LI w0 w nb rb nm' := by
  have : nms nm = nms nm' := by
    unfold nms
    refine List.map_congr_left (fun i hi => ?_)
    rw [e i (by simpa using hi)]
  exact ⟨by rw [← this]; exact h.rng, h.nth, h.rth, h.bel⟩

theorem LI.start (w : World) (t : TypeId) (cs : Array Value) (hc : cs = (nms (fun _ => 0)).toArray) : LI w ((w.alloc (.cells cs t)).alloc (.cells cs t)) (w.heap.size + 1) w.heap.size (fun _ => 0) := by
  subst hc
  have h1 := range_alloc (w.alloc (.cells (nms (fun _ => 0)).toArray t)) (nms (fun _ => 0)) t
  rw [World.size_alloc] at h1
  have h0 : ((w.alloc (.cells (nms (fun _ => 0)).toArray t)).alloc (.cells (nms (fun _ => 0)).toArray t)).rangeAt w.heap.size 0 (nms (fun _ => 0)) := World.rangeAt_alloc (range_alloc w (nms (fun _ => 0)) t) _
  have some_of : ∀ {w : World} {b j : Nat}, w.rangeAt b 0 (nms (fun _ => 0)) → j < 26 → (w.cell? ⟨b, 0 + j, none⟩).isSome = true := fun h hj => by rw [h _ _ (nms_at _ _ hj)]; rfl
  refine ⟨h1, fun j hj => ⟨some_of h1 hj, ?_⟩, fun j hj => ⟨some_of h0 hj, ?_⟩, ((Below.refl _ _).alloc (Nat.le_refl _) _).alloc (by simp) _⟩
  · have := World.frozen?_alloc_new (w.alloc (.cells (nms (fun _ => 0)).toArray t)) (nms (fun _ => 0)).toArray t (0 + j)
    rw [World.size_alloc] at this
    exact this
  · rw [World.frozen?_alloc_old _ _ _ (by simp)]
    exact World.frozen?_alloc_new w _ _ _

set_option maxHeartbeats 1000000 in
set_option maxRecDepth 1000000 in
theorem lows_any {s : ByteArray} (hs : s.size ≤ 300) {B g : Nat} (w : World) (gr : Gr w s B g) (hB : B ≤ w.heap.size) :
    Calls Tryz.prog 35 #[.pointer (some ⟨g, 0, none⟩)] w fun e w' => e = .returned (.agg (nms (lowsF s 27)).toArray) ∧ Below w.heap.size w w' := by
  have HGR := hide gr
  have hgl : g < w.heap.size := Nat.lt_of_lt_of_le gr.lt hB
  clear gr
  go_enter Tryz.func35, Tryz.ntmps35
  go_wp2
  go_loopw [4] (fun iv wr => ∃ k : Nat, iv = .int .i64 k ∧ k ≤ 26 ∧ Hid (LI w wr (w.heap.size + 1) w.heap.size (fun j => if j < k then 99 else 0))) (fun iv _ => 30 - (intOf iv).toNat)
  case atStart => exact ⟨0, rfl, Nat.zero_le _, hide ((LI.start w _ _ rfl).congr (fun i _ => by simp))⟩
  case round =>
    obtain ⟨k, rfl, hk, hI⟩ := hrel
    by_cases hlt : k < 26
    · obtain ⟨c0, f0⟩ := (unhide hI).at_ hlt
      go_wp2
      go_roundw
      case rel =>
        refine ⟨k + 1, by go_num, by omega, hide (((unhide hI).set hlt 99 (by omega) (by omega)).congr (fun i _ => ?_))⟩
        unfold nmU
        by_cases e : i = k
        · subst e; simp
        · rw [if_neg e]
          show (if i < k then (99 : Int) else 0) = _
          by_cases e2 : i < k
          · rw [if_pos e2, if_pos (by omega)]
          · rw [if_neg e2, if_neg (by omega)]
      case measure => simp [intOf]; omega
    · have hI2 := hide ((unhide hI).congr (nm' := lowsF s 0) (fun i hi => by show (if i < k then (99 : Int) else 0) = _; rw [if_pos (by omega)]; rfl))
      clear hI
      go_wp2
      go_loopw [5] (fun rv wr2 => ∃ r : Nat, rv = .int .i64 r ∧ r ≤ 27 ∧ Hid (LI w wr2 (w.heap.size + 1) w.heap.size (lowsF s r))) (fun rv _ => 30 - (intOf rv).toNat)
      case atStart => exact ⟨0, rfl, Nat.zero_le _, hI2⟩
      case round =>
        obtain ⟨r, rfl, hr, hJ⟩ := hrel
        by_cases hlr : r ≤ 26
        · have hlr' : decide ((r : Int) ≤ 26) = true := by simp; omega
          go_wp2
          go_loopw [6] (fun iv wr3 => ∃ i : Nat, iv = .int .i64 i ∧ i ≤ 26 ∧ Hid (LI w wr3 (w.heap.size + 1) w.heap.size (lowRow s (lowsF s r) i))) (fun iv _ => 30 - (intOf iv).toNat)
          case atStart => exact ⟨0, rfl, Nat.zero_le _, hJ⟩
          case round =>
            obtain ⟨i, rfl, hi, hK⟩ := hrel
            by_cases hi26 : i < 26
            · have hnm : Nms (lowRow s (lowsF s r) i) := nms_row (nms_lows s r) i
              have hbel := (unhide hK).bel
              have hgr := (unhide HGR).below hbel hB
              by_cases hrl : rl s (65 + i : Nat) = -1
              · have c0 := hgr.nils i hi26 hrl
                have HST : Hid (lowRow s (lowsF s r) (i + 1) = lowRow s (lowsF s r) i) := hide (by show lowStep s (lowRow s (lowsF s r) i) i = _; unfold lowStep; rw [if_pos hrl])
                clear hrl hgr hbel hnm
                go_wp2
                go_roundw
                case rel => exact ⟨i + 1, by go_num, by omega, by rw [unhide HST]; exact hK⟩
                case measure => simp [intOf]; omega
              · have hb0 := rl_bd s (65 + i : Nat)
                obtain ⟨j, hj⟩ : ∃ j : Nat, rl s (65 + i : Nat) = (j : Int) := ⟨(rl s (65 + i : Nat)).toNat, by omega⟩
                obtain ⟨hbg, hbj⟩ := rlF_spec s (65 + i : Nat) s.size 0 j hj
                obtain ⟨p, m, j', h1, h2, h3, h4⟩ := hgr.rules j (by rw [hbj]; simp [cN]; omega)
                rw [hbj, hj] at h1
                have ejj : j' = j := by omega
                subst ejj
                rw [hbj, show (((65 + i : Nat) : Int) - 65).toNat = i by omega] at h3
                have HST : Hid (lowRow s (lowsF s r) (i + 1) = nmU (lowRow s (lowsF s r) i) i (low s (lowRow s (lowsF s r) i) (j' + 2))) := hide (by
                  show lowStep s (lowRow s (lowsF s r) i) i = _
                  unfold lowStep
                  rw [if_neg hrl, hj, show ((j' : Int) + 2).toNat = j' + 2 by omega])
                have hB3 : B ≤ wr.heap.size := Nat.le_trans hB hbel.size
                have HE := hide h4
                have HL := hide (low_all hs hnm (B := B) m)
                have HRG := hide (unhide hK).rng
                generalize hnmE : lowRow s (lowsF s r) i = nm at *
                have HNE := hide hnmE
                clear hrl hgr hbel hnm hb0 hj hbg hbj h1 h2 h4 hnmE
                go_wp2
                have hu := Tryz.underlying57
                have hin : (Tryz.prog.info? 57).map (·.size) = some (nms nm).length := by rw [nms_len]; exact Tryz.infoArr
                have hnl := nms_len nm
                have hno := nms_one nm
                go_region_held (fun w' => Below wr.heap.size wr w' ∧ w'.cell? ⟨g, i, none⟩ = some (.pointer (some ⟨p, 0, none⟩)) ∧ w'.rangeAt (w.heap.size + 1) 0 (nms nm)) (first | exact keepA ((Below.refl _ _).drew) h3 (unhide HRG) | exact keepA (((Below.refl wr.heap.size wr).drew).trans hb2) h3 (unhide HRG)) (first | (go_at_call 70; refine (unhide HL p (j' + 2) _ ?_ ?_).mono ?_; exact hB3; exact (unhide HE).below ((Below.refl _ _).drew) hB3; rintro e w2 ⟨rfl, hb2⟩))
                have hK2 := hide (((unhide hK).below ((Below.refl wr.heap.size wr).drew)).below hb2)
                clear hu hin hnl hno hb2
                obtain ⟨c0, f0⟩ := (unhide hK2).at_ hi26
                go_wp2
                go_roundw
                case rel =>
                  have hfin : LI w (w2.setCell ⟨w.heap.size + 1, i, none⟩ (.int .i64 (low s nm (j' + 2)))) (w.heap.size + 1) w.heap.size (lowRow s (lowsF s r) (i + 1)) := by
                    rw [unhide HST]; exact (unhide hK2).set hi26 _ (by omega) (by omega)
                  exact ⟨i + 1, by go_num, by omega, hide hfin⟩
                case measure => simp [intOf]; omega
            · have hi26' : i = 26 := by omega
              subst hi26'
              go_wp2
              go_roundw
              case rel => exact ⟨r + 1, by go_num, by omega, hK⟩
              case measure => simp [intOf]; omega
        · have hr27 : r = 27 := by omega
          subst hr27
          have hin : Hid ((Tryz.prog.info? 57).map (·.size) = some (nms (lowsF s 27)).length) := hide (by rw [nms_len]; exact Tryz.infoArr)
          have hrth : Hid (World.there wr w.heap.size 0 (nms (lowsF s 27)).toArray.size) := hide (by simp only [List.size_toArray, nms_len]; exact (unhide hJ).rth)
          go_wp2_with (first | (refine wpList_load_mid rfl 57 _ rfl (w.heap.size + 1) 0 rfl (nms (lowsF s 27)) _ (unhide hJ).rng Tryz.underlying57 rfl (unhide hin) ?_) | (refine wpList_store_mid rfl 57 _ _ rfl w.heap.size 0 (nms (lowsF s 27)).toArray rfl rfl (unhide hrth) (by simpa using unhide hin) (all_oneCell_toArray (nms_one _)) ?_))
          refine bodyPost_ret (v := .agg (nms (lowsF s 27)).toArray) (results_cell_mid Tryz.results35 _ _ w.heap.size (nms (lowsF s 27)) _ rfl (World.rangeAt_setCells_same _ _ _ _ ?_) Tryz.underlying57 rfl (unhide hin)) rfl ⟨rfl, ?_⟩
          · simpa using unhide hrth
          · exact below_setRow _ (Nat.le_refl _) _ _ (unhide hJ).bel
end Go.Proofs.YtnfaiaoipeholaaGreatDoor

namespace Go.Proofs.YtnfaiaoipeholaaGreatDoor
open Go.RowKit

theorem strs_size (T : List Int) : (strOfNums T).size = T.length := strOfNums_size T
theorem strs_append (T l : List Int) : strOfNums T ++ strOfNums l = strOfNums (T ++ l) := by
  have h : (strOfNums T ++ strOfNums l).data = (strOfNums (T ++ l)).data := by rw [ByteArray.data_append]; simp [strOfNums]
  cases h1 : strOfNums T ++ strOfNums l with
  | mk d => cases h2 : strOfNums (T ++ l) with
    | mk d' => rw [h1, h2] at h; simp at h; rw [h]

/-- all blocks but one stand -/
def But (b : Nat) (w w' : World) : Prop := w.grownBy w' (some b)
theorem But.refl (b : Nat) (w : World) : But b w w := ⟨rfl, rfl, rfl, Nat.le_refl _, fun _ _ _ => rfl⟩
theorem But.trans {b : Nat} {w w1 w2 : World} (h : But b w w1) (k : But b w1 w2) : But b w w2 :=
  ⟨k.os.trans h.os, k.tape.trans h.tape, k.output.trans h.output, Nat.le_trans h.size k.size, fun j hj hne => (k.block j (Nat.lt_of_lt_of_le hj h.size) hne).trans (h.block j hj hne)⟩
theorem But.of {b : Nat} {w w1 : World} (h : Below w.heap.size w w1) : But b w w1 := ⟨h.os, h.tape, h.output, h.size, fun j hj _ => h.block j hj⟩
theorem But.set (b o : Nat) (w : World) (u : Value) : But b w (w.setCell ⟨b, o, none⟩ u) := by
  have hb : Below b w (w.setCell ⟨b, o, none⟩ u) := (Below.refl _ _).setCell (p := ⟨b, o, none⟩) (Nat.le_refl _) u
  exact ⟨hb.os, hb.tape, hb.output, hb.size, fun k _ hne => Below.heap_setCell w _ u k (fun e => hne (by rw [e]))⟩
theorem But.cell {b : Nat} {w w1 : World} (h : But b w w1) {g o : Nat} (hne : g ≠ b) (hlt : g < w.heap.size) : w1.cell? ⟨g, o, none⟩ = w.cell? ⟨g, o, none⟩ := World.cell?_of_block (a := ⟨g, o, none⟩) (h.block g hlt (fun e => hne (by injection e)))
theorem But.frozen {b : Nat} {w w1 : World} (h : But b w w1) {g o : Nat} (hne : g ≠ b) (hlt : g < w.heap.size) : w1.frozen? ⟨g, o, none⟩ = w.frozen? ⟨g, o, none⟩ := World.frozen?_of_block (a := ⟨g, o, none⟩) (h.block g hlt (fun e => hne (by injection e)))
theorem But.below {b B : Nat} {w w1 : World} (h : But b w w1) (hB : B ≤ b) (hlt : b ≤ w.heap.size) : Below B w w1 := ⟨h.os, h.tape, h.output, h.size, fun k hk => h.block k (by omega) (fun e => by injection e with e; omega)⟩
theorem But.alloc {b : Nat} {w w1 : World} (h : But b w w1) (o : Obj) : But b w (w1.alloc o) := h.trans (But.of ((Below.refl _ _).alloc (Nat.le_refl _) _))

/-- the reference's maker in memory -/
structure Rm (w : World) (b : Nat) (s c : ByteArray) (m : Int) (B g : Nat) (a : Nat) (T : List Int) : Prop where
  gr : Gr w s B g
  hB : B ≤ b
  lt : b < w.heap.size
  gp : w.cell? ⟨b, 0, none⟩ = some (.pointer (some ⟨g, 0, none⟩))
  nam : w.rangeAt b 1 (nms (lowsF s 27))
  mst : w.cell? ⟨b, 27, none⟩ = some (.int .i64 m)
  chs : w.cell? ⟨b, 28, none⟩ = some (.string c)
  tak : w.cell? ⟨b, 29, none⟩ = some (.int .i64 a)
  tkf : w.frozen? ⟨b, 29, none⟩ = false
  out : w.cell? ⟨b, 30, none⟩ = some (.string (strOfNums T))
  ouf : w.frozen? ⟨b, 30, none⟩ = false
section
variable {w : World} {b : Nat} {s c : ByteArray} {m : Int} {B g : Nat} {a : Nat} {T : List Int}
theorem Rm.below (h : Rm w b s c m B g a T) {w' : World} (hb : Below w.heap.size w w') : Rm w' b s c m B g a T := by
  have hc : ∀ o, w'.cell? ⟨b, o, none⟩ = w.cell? ⟨b, o, none⟩ := fun o => hb.cell (p := ⟨b, o, none⟩) h.lt
  have hf : ∀ o, w'.frozen? ⟨b, o, none⟩ = w.frozen? ⟨b, o, none⟩ := fun o => hb.frozen (p := ⟨b, o, none⟩) h.lt
  exact ⟨h.gr.below hb (Nat.le_trans h.hB (Nat.le_of_lt h.lt)), h.hB, Nat.lt_of_lt_of_le h.lt hb.size, (hc _).trans h.gp, range_below h.nam hb, (hc _).trans h.mst, (hc _).trans h.chs, (hc _).trans h.tak, (hf _).trans h.tkf, (hc _).trans h.out, (hf _).trans h.ouf⟩
theorem Rm.set (h : Rm w b s c m B g a T) {o : Nat} (ho : 29 ≤ o) (u : Value) :
    Gr (w.setCell ⟨b, o, none⟩ u) s B g ∧ (∀ j, j ≠ o → (w.setCell ⟨b, o, none⟩ u).cell? ⟨b, j, none⟩ = w.cell? ⟨b, j, none⟩) ∧ (w.setCell ⟨b, o, none⟩ u).rangeAt b 1 (nms (lowsF s 27)) ∧ (∀ j, (w.setCell ⟨b, o, none⟩ u).frozen? ⟨b, j, none⟩ = w.frozen? ⟨b, j, none⟩) ∧ b < (w.setCell ⟨b, o, none⟩ u).heap.size ∧ Below b w (w.setCell ⟨b, o, none⟩ u) := by
  have hb : Below b w (w.setCell ⟨b, o, none⟩ u) := (Below.refl _ _).setCell (p := ⟨b, o, none⟩) (Nat.le_refl _) u
  have hc : ∀ j, j ≠ o → (w.setCell ⟨b, o, none⟩ u).cell? ⟨b, j, none⟩ = w.cell? ⟨b, j, none⟩ := fun j hj => World.cell?_setCell_other w _ _ _ (fun e => hj (by injection e with _ e; exact e.symm))
  refine ⟨?_, hc, fun j v hv => ?_, fun j => World.frozen?_setCell _ _ _ _, by simpa using h.lt, hb⟩
  · have hlt := h.gr.lt
    have hBb := h.hB
    have gr := h.gr
    have hbel : Below B w (w.setCell ⟨b, o, none⟩ u) := hb.mono hBb
    refine ⟨gr.lt, (hbel.cell (p := ⟨g, 26, none⟩) hlt).trans gr.start, fun f hf => ?_, fun i hi hr => (hbel.cell (p := ⟨g, i, none⟩) hlt).trans (gr.nils i hi hr)⟩
    obtain ⟨p, n, j, h1, h2, h3, h4⟩ := gr.rules f hf
    exact ⟨p, n, j, h1, h2, (hbel.cell (p := ⟨g, (bt s f - 65).toNat, none⟩) hlt).trans h3, EA.frame (fun k hk => hbel.block k hk) (fun _ h => h) n n p _ (Nat.le_refl _) h4⟩
  · have hj : j < 26 := by have := (List.getElem?_eq_some_iff.1 hv).1; rw [nms_len] at this; exact this
    rw [hc (1 + j) (by omega)]; exact h.nam j v hv
theorem Rm.take (h : Rm w b s c m B g a T) (x : Nat) : Rm (w.setCell ⟨b, 29, none⟩ (.int .i64 x)) b s c m B g x T := by
  obtain ⟨h1, h2, h3, h4, h5, _⟩ := h.set (o := 29) (Nat.le_refl _) (.int .i64 x)
  exact ⟨h1, h.hB, h5, (h2 0 (by omega)).trans h.gp, h3, (h2 27 (by omega)).trans h.mst, (h2 28 (by omega)).trans h.chs, World.cell?_setCell_same w _ _ h.tak, (h4 29).trans h.tkf, (h2 30 (by omega)).trans h.out, (h4 30).trans h.ouf⟩
theorem Rm.puts (h : Rm w b s c m B g a T) (T' : List Int) : Rm (w.setCell ⟨b, 30, none⟩ (.string (strOfNums T'))) b s c m B g a T' := by
  obtain ⟨h1, h2, h3, h4, h5, _⟩ := h.set (o := 30) (by omega) (.string (strOfNums T'))
  exact ⟨h1, h.hB, h5, (h2 0 (by omega)).trans h.gp, h3, (h2 27 (by omega)).trans h.mst, (h2 28 (by omega)).trans h.chs, (h2 29 (by omega)).trans h.tak, (h4 29).trans h.tkf, World.cell?_setCell_same w _ _ h.out, (h4 30).trans h.ouf⟩
theorem Rm.drew (h : Rm w b s c m B g a T) : Rm w.drew b s c m B g a T := h.below ((Below.refl _ _).drew)

set_option maxHeartbeats 400000 in
theorem put_any (hm : Rm w b s c m B g a T) (hT : T.length ≤ 10000000) (l : List Int) (t : ByteArray) (ht : t = strOfNums l) (hl : l.length ≤ 10) : Calls Tryz.prog 71 #[.pointer (some ⟨b, 0, none⟩), .string t] w fun e w' => e = .returned (.tuple #[]) ∧ Rm w' b s c m B g a (T ++ l) ∧ But b w w' := by
  subst ht
  have h1 := hm.out
  have h2 := hm.ouf
  have hz1 := strs_size T
  have hz2 := strs_size l
  have HM := hide hm
  have HA := hide (strs_append T l)
  go_enter Tryz.func71, Tryz.ntmps71
  go_wp2
  go_end0
  rw [unhide HA]
  exact ⟨rfl, (unhide HM).puts _, But.set _ _ _ _⟩

/-- one byte as a text -/
theorem conv_one (w : World) (x : Int) : (convert 83 9 (.slice (some ⟨w.heap.size, 0, none⟩) 1 1)).run Tryz.prog (w.alloc (.cells #[.int .u8 x] 5)) = .ok (.string (strOfNums [x])) (w.alloc (.cells #[.int .u8 x] 5)) :=
  run_convert_bytes_arg _ 83 5 Tryz.underlying83 Tryz.underlying5 w.heap.size 0 1 1 [x] rfl (fun i hi => by
    have : i = 0 := by omega
    subst this
    rw [World.cell?_alloc_new]; rfl) _ Tryz.underlying9

theorem dgF_at (c : ByteArray) : ∀ n i, dgF c n i = true → ∀ j : Nat, i ≤ j → j < i + n → cD (bt c j) = true
  | 0, i, h, j, h1, h2 => by omega
  | n + 1, i, h, j, h1, h2 => by
    unfold dgF at h
    simp only [Bool.and_eq_true] at h
    by_cases e : j = i
    · subst e; exact h.1
    · exact dgF_at c n (i + 1) h.2 j (by omega) (by omega)
theorem digs_at {c : ByteArray} (h : digs c = true) {j : Nat} (hj : j < c.size) : cD (bt c j) = true := dgF_at c c.size 0 h j (by omega) (by omega)

set_option maxHeartbeats 400000 in
theorem way_any (hm : Rm w b s c m B g a T) (hd : digs c = true) (ha : a ≤ 10000000) (q : Int) (n : Nat) (hq : q = n) (hn : n ≤ 1000) : Calls Tryz.prog 73 #[.pointer (some ⟨b, 0, none⟩), .int .i64 q] w fun e w' => e = .returned (.int .i64 (wayN c a n)) ∧ Rm w' b s c m B g (wayA a n) T ∧ But b w w' := by
  subst hq
  have h1 := hm.chs
  have h2 := hm.tak
  have h3 := hm.tkf
  have HM := hide hm
  by_cases h : n < 2
  · have e1 : wayN c a n = 0 := by unfold wayN; rw [if_pos h]
    have e2 : wayA a n = a := by unfold wayA; rw [if_pos h]
    rw [e1, e2]
    clear e1 e2
    go_enter Tryz.func73, Tryz.ntmps73
    go_wp2
    go_ret; exact ⟨rfl, unhide HM, But.refl _ _⟩
  · have e2 : wayA a n = a + 1 := by unfold wayA; rw [if_neg h]
    rw [e2]
    have hne : (n : Int) ≠ 0 := by omega
    clear e2
    by_cases hl : a < c.size
    · have hb := bt_at c a hl
      have hcd := digs_at hd hl
      have hv : 48 ≤ bt c a ∧ bt c a ≤ 57 := by simpa [cD] using hcd
      obtain ⟨hv1, hv2⟩ := hv
      have e1 : (wayN c a n : Int) = (bt c a - 48) % n := by
        unfold wayN dig; rw [if_neg h, if_pos hcd]
        have : ((bt c a - 48).toNat : Int) = bt c a - 48 := by omega
        rw [← this]; simp
      rw [e1, hb]
      rw [hb] at hv1 hv2
      clear e1 hcd hb hd
      go_enter Tryz.func73, Tryz.ntmps73
      go_wp2
      go_quiet (fail)
      go_wp2
      go_quiet (fail)
      go_wp2
      go_ret
      exact ⟨rfl, ((unhide HM).below (below_drewN (Below.refl _ _) _)).take (a + 1), (But.of (below_drewN (Below.refl _ _) _)).trans (But.set _ _ _ _)⟩
    · have hb : bt c a = 0 := bt_out c a (by omega)
      have e1 : wayN c a n = 0 := by unfold wayN dig; rw [if_neg h, hb, if_neg (by decide)]; simp
      rw [e1]
      clear e1 hb hd
      go_enter Tryz.func73, Tryz.ntmps73
      go_wp2
      go_quiet (fail)
      go_wp2
      go_ret
      exact ⟨rfl, ((unhide HM).below (below_drewN (Below.refl _ _) _)).take (a + 1), (But.of (below_drewN (Below.refl _ _) _)).trans (But.set _ _ _ _)⟩
end
end Go.Proofs.YtnfaiaoipeholaaGreatDoor
