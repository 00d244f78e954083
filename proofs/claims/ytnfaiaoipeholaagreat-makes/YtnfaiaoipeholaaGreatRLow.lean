/- The reference's least heights: the walks of alt and low, by one induction. -/
import Derived.Test.YtnfaiaoipeholaaGreatLowMath
import Derived.Test.YtnfaiaoipeholaaGreatRTree
import Derived.Test.YtnfaiaoipeholaaGreatCells
import Derived.Deep.RegionHeld
namespace Go.Proofs.YtnfaiaoipeholaaGreat
open Go.RowKit

/-- what a region that draws may lean on: nothing old has turned; a cell; the array -/
theorem keepA {wr w2 : World} {ga o nb : Nat} {u : Value} {cs : List Value} (h : Below wr.heap.size wr w2) (e1 : wr.cell? ⟨ga, o, none⟩ = some u) (hr : wr.rangeAt nb 0 cs) :
    Below wr.heap.size wr w2 ∧ w2.cell? ⟨ga, o, none⟩ = some u ∧ w2.rangeAt nb 0 cs :=
  ⟨h, (h.cell (p := ⟨ga, o, none⟩) (World.block_lt_of_cell? wr _ e1)).trans e1, range_below hr h⟩

def SaidL (s : ByteArray) (nm : Nat → Int) (B m : Nat) : Prop :=
  ∀ (p x : Nat) (w : World), B ≤ w.heap.size → EA w s m (fun b => b < B) p x →
    Calls Tryz.prog 111 #[.pointer (some ⟨p, 0, none⟩), .agg (nms nm).toArray] w fun e w' => e = .returned (.int .i64 (low s nm x)) ∧ Below w.heap.size w w'
def SaidA (s : ByteArray) (nm : Nat → Int) (B m : Nat) : Prop :=
  ∀ (v : Value) (L : List Nat) (w : World), B ≤ w.heap.size → L.length ≤ 300 → (∀ f ∈ L, isF s f = true) → AAt w (EA w s m (fun b => b < B)) (fun b => b < B) s v L →
    Calls Tryz.prog 151 #[v, .agg (nms nm).toArray] w fun e w' => e = .returned (.int .i64 (altH s nm (low s nm) L)) ∧ Below w.heap.size w w'

theorem topH_snoc (s : ByteArray) (nm rec : Nat → Int) (L : List Nat) (f : Nat) (top : Int) : topH s nm rec (f :: L) top = topH s nm rec L (max top (facH s nm rec f)) := rfl

set_option maxHeartbeats 1000000 in
set_option maxRecDepth 1000000 in
theorem alt_any {s : ByteArray} {nm : Nat → Int} (hnm : Nms nm) {B m : Nat} (hL : SaidL s nm B m) : SaidA s nm B m := by
  intro v L w hB hlen hmem hA
  obtain ⟨ao, ca, rfl, hfac⟩ := hA
  have hlb := low_bd (s := s) hnm
  have HF := hide hfac
  have HM := hide hmem
  generalize hR : altH s nm (low s nm) L = R
  have HR := hide hR
  clear hfac hmem hR
  go_enter Tryz.func151, Tryz.ntmps151
  go_wp2
  go_loopw [5, 6] (fun tv iv wr => ∃ (k : Nat) (top : Int), tv = .int .i64 top ∧ iv = .int .i64 k ∧ k ≤ L.length ∧ 0 ≤ top ∧ top ≤ 100 ∧ Below (w.heap.size + 1) (w.alloc (.cells (nms nm).toArray 61)) wr ∧ Hid (topH s nm (low s nm) L 0 = topH s nm (low s nm) (L.drop k) top)) (fun _ iv _ => 400 - (intOf iv).toNat)
  case atStart => exact ⟨0, 0, rfl, rfl, Nat.zero_le _, by omega, by omega, Below.refl _ _, hide rfl⟩
  case round =>
    obtain ⟨k, top, rfl, rfl, hk, ht0, ht1, hb, hN⟩ := hrel
    have hsz := hb.size
    have hsz' : w.heap.size < wr.heap.size := by have := hsz; simp at this; omega
    have hbw : Below w.heap.size w wr := ((Below.refl _ _).alloc (Nat.le_refl _) _).trans (hb.mono (by omega))
    have hrg : wr.rangeAt w.heap.size 0 (nms nm) := range_below (range_alloc w (nms nm) _) (by simpa using hb)
    have HRG := hide hrg
    have HBW := hide hbw
    have HB := hide hb
    by_cases hkl : k < L.length
    · obtain ⟨ga, rfl, hga, hF1, hF2⟩ := unhide HF k hkl
      have hfm := unhide HM (L.getD k 0) (by rw [List.getD_eq_getElem?_getD, List.getElem?_eq_getElem hkl]; simp)
      have hdrop : L.drop k = L.getD k 0 :: L.drop (k + 1) := by
        rw [List.drop_eq_getElem_cons hkl, List.getD_eq_getElem?_getD, List.getElem?_eq_getElem hkl]; rfl
      have hN2 := unhide hN
      rw [hdrop, topH_snoc] at hN2
      clear hN hdrop
      generalize L.getD k 0 = f at *
      have hgal : ga < w.heap.size := Nat.lt_of_lt_of_le hga hB
      have e0 := (hbw.cell (p := ⟨ga, k * 2, none⟩) hgal).trans hF1
      have hfb := facH_bd (s := s) hnm hlb f
      by_cases hcN : cN (bt s f) = true
      · have hv : 65 ≤ bt s f ∧ bt s f ≤ 90 := by simpa [cN] using hcN
        obtain ⟨hv1, hv2⟩ := hv
        have hfe : facH s nm (low s nm) f = nm (bt s f - 65).toNat + 1 := by unfold facH; rw [if_pos hcN]
        rw [hfe] at hN2 hfb
        have c1 := hrg (bt s f - 65).toNat _ (nms_at nm _ (by omega))
        rw [Nat.zero_add] at c1
        have hn1 := hnm (bt s f - 65).toNat
        obtain ⟨hn1, hn2⟩ := hn1
        have hix : bt s f - 65 < 26 := by omega
        have hix0 : 0 ≤ bt s f - 65 := by omega
        have HN := hide hN2
        have HC := hide hcN
        clear hN2 hcN hF2 hF1 hrg hbw hb hfe
        go_wp2_with (first | (go_at_call 59; refine (name_any _ _).mono ?_; rintro e w' ⟨rfl, hw⟩; replace hw := hw.symm; subst hw; rw [unhide HC]) | (go_at_call 176; refine (higher_any _ _ _).mono ?_; rintro e w' ⟨rfl, hw⟩; replace hw := hw.symm; subst hw))
        go_roundw
        case rel => exact ⟨k + 1, max top (nm (bt s f - 65).toNat + 1), rfl, by go_num, by omega, by omega, by omega, unhide HB, hide (unhide HN)⟩
        case measure => simp [intOf]; omega
      · have hcNf : cN (bt s f) = false := by simpa using hcN
        by_cases hkd : bt s f = 40 ∨ bt s f = 60
        · have hcO : cO (bt s f) = true := by rcases hkd with e | e <;> rw [e] <;> decide
          rcases hF2 with ⟨q1, _⟩ | ⟨_, p', q2, q3⟩
          · rw [q1] at hcO; cases hcO
          have hfe : facH s nm (low s nm) f = low s nm (f + 1) := by unfold facH; rw [if_neg hcN, if_pos hkd]
          rw [hfe] at hN2 hfb
          have e1 := (hbw.cell (p := ⟨ga, k * 2 + 1, none⟩) hgal).trans q2
          have HE := hide (q3.below hbw hB)
          have HN := hide hN2
          have HC := hide hcNf
          have hcase : Hid ((bt s f == 40) = true ∨ (bt s f == 40) = false ∧ (bt s f == 60) = true) := hide (by
            by_cases e : bt s f = 40
            · exact .inl (by simp [e])
            · exact .inr ⟨by simp [e], by simp; omega⟩)
          clear hN2 hcN hcNf hF1 q2 q3 hrg hbw hb hfe hkd hcO
          rcases unhide hcase with h40 | ⟨h40, h60⟩
          all_goals
            go_wp2_with (go_at_call 59; refine (name_any _ _).mono ?_; rintro e w' ⟨rfl, hw⟩; replace hw := hw.symm; subst hw; rw [unhide HC])
            have hu := Tryz.underlying61
            have hin : (Tryz.prog.info? 61).map (·.size) = some (nms nm).length := by rw [nms_len]; exact Tryz.infoArr
            have hnl := nms_len nm
            have hno := nms_one nm
            go_region_held (fun w' => Below wr.heap.size wr w' ∧ w'.cell? ⟨ga, k * 2 + 1, none⟩ = some (.pointer (some ⟨p', 0, none⟩)) ∧ w'.rangeAt w.heap.size 0 (nms nm)) (first | exact keepA ((Below.refl _ _).drew) e1 (unhide HRG) | exact keepA (((Below.refl wr.heap.size wr).drew).trans hb2) e1 (unhide HRG)) (first | (go_at_call 111; refine (hL p' (f + 1) _ ?_ ?_).mono ?_; exact Nat.le_trans hB (unhide HBW).size; exact (unhide HE).below ((Below.refl _ _).drew) (Nat.le_trans hB (unhide HBW).size); rintro e w2 ⟨rfl, hb2⟩))
            have HB2 := hide hb2
            clear hu hin hnl hno hb2
            go_wp2_with (go_at_call 176; refine (higher_any _ _ _).mono ?_; rintro e w' ⟨rfl, hw⟩; replace hw := hw.symm; subst hw)
            go_roundw
            case rel => exact ⟨k + 1, max top (low s nm (f + 1)), rfl, by go_num, by omega, by omega, by omega, ((unhide HB).drew).trans ((unhide HB2).mono (by show w.heap.size + 1 ≤ wr.heap.size; omega)), hide (unhide HN)⟩
            case measure => simp [intOf]; omega
        · have hfe : facH s nm (low s nm) f = 0 := by unfold facH; rw [if_neg hcN, if_neg hkd]
          rw [hfe] at hN2
          have HN := hide hN2
          have HC := hide hcNf
          have h40 : (bt s f == 40) = false := by simp only [beq_eq_false_iff_ne]; omega
          have h60 : (bt s f == 60) = false := by simp only [beq_eq_false_iff_ne]; omega
          clear hN2 hcN hcNf hF1 hF2 hrg hbw hb hfe hkd
          go_wp2_with (first | (go_at_call 59; refine (name_any _ _).mono ?_; rintro e w' ⟨rfl, hw⟩; replace hw := hw.symm; subst hw; rw [unhide HC]) | (go_at_call 176; refine (higher_any _ _ _).mono ?_; rintro e w' ⟨rfl, hw⟩; replace hw := hw.symm; subst hw))
          go_roundw
          case rel => exact ⟨k + 1, max top 0, rfl, by go_num, by omega, by omega, by omega, unhide HB, hide (unhide HN)⟩
          case measure => simp [intOf]; omega
    · have hN2 := unhide hN
      rw [List.drop_eq_nil_of_le (by omega)] at hN2
      have hR := unhide HR
      unfold altH at hR
      rw [hN2] at hR
      have e : topH s nm (low s nm) [] top = top := rfl
      rw [e] at hR
      clear hN hN2 e hrg hbw hb
      by_cases h99 : 99 < top
      · rw [if_pos h99] at hR
        subst hR
        go_wp2
        go_ret
        exact ⟨rfl, unhide HBW⟩
      · rw [if_neg h99] at hR
        subst hR
        go_wp2
        go_ret
        exact ⟨rfl, unhide HBW⟩

theorem minH_cons (s : ByteArray) (nm rec : Nat → Int) (a : Nat) (l : List Nat) (best : Int) : minH s nm rec (a :: l) best = minH s nm rec l (if altH s nm rec (fe s a).1 < best then altH s nm rec (fe s a).1 else best) := rfl
/-- one cell, another, and the array -/
theorem keepL {wr w2 : World} {p o g o2 nb : Nat} {u u2 : Value} {cs : List Value} (h : Below wr.heap.size wr w2) (e1 : wr.cell? ⟨p, o, none⟩ = some u) (e2 : wr.cell? ⟨g, o2, none⟩ = some u2) (hr : wr.rangeAt nb 0 cs) :
    Below wr.heap.size wr w2 ∧ w2.cell? ⟨p, o, none⟩ = some u ∧ w2.cell? ⟨g, o2, none⟩ = some u2 ∧ w2.rangeAt nb 0 cs :=
  ⟨h, (h.cell (p := ⟨p, o, none⟩) (World.block_lt_of_cell? wr _ e1)).trans e1, (h.cell (p := ⟨g, o2, none⟩) (World.block_lt_of_cell? wr _ e2)).trans e2, range_below hr h⟩

set_option maxHeartbeats 1000000 in
set_option maxRecDepth 1000000 in
theorem low_any {s : ByteArray} (hs : s.size ≤ 300) {nm : Nat → Int} (hnm : Nms nm) {B m : Nat} (hA : SaidA s nm B m) : SaidL s nm B (m + 1) := by
  intro p x w hB hE
  obtain ⟨hp, N, gv, cap, hN0, hN4, hcp, hgv, hNn, hall⟩ := hE
  have hlb := low_bd (s := s) hnm
  have hsts : (sts s x).length = N := by
    have h1 : (sts s x)[N]? = none := by rw [← sts_ap]; exact hNn
    have h2 : N ≤ (sts s x).length := by
      obtain ⟨a, _, h3, _⟩ := hall (N - 1) (by omega)
      rw [sts_ap] at h3
      have := (List.getElem?_eq_some_iff.1 h3).1
      omega
    have h3 := List.getElem?_eq_none_iff.1 h1
    omega
  have HS := hide hsts
  have HALL := hide hall
  generalize hR : low s nm x = R
  rw [low_step] at hR
  have HR := hide hR
  have hpl : p < w.heap.size := Nat.lt_of_lt_of_le hp hB
  have hgl : gv < w.heap.size := Nat.lt_of_lt_of_le hgv hB
  clear hNn hall hR hsts
  go_enter Tryz.func111, Tryz.ntmps111
  go_wp2
  go_loopw [5, 6] (fun tv iv wr => ∃ (k : Nat) (best : Int), tv = .int .i64 best ∧ iv = .int .i64 k ∧ k ≤ N ∧ 0 ≤ best ∧ best ≤ 99 ∧ Below (w.heap.size + 1) (w.alloc (.cells (nms nm).toArray 61)) wr ∧ Hid (R = minH s nm (low s nm) ((sts s x).drop k) best)) (fun _ iv _ => 500 - (intOf iv).toNat)
  case atStart => exact ⟨0, 99, rfl, rfl, Nat.zero_le _, by omega, by omega, Below.refl _ _, hide (unhide HR).symm⟩
  case round =>
    obtain ⟨k, best, rfl, rfl, hk, ht0, ht1, hb, hN⟩ := hrel
    have hsz := hb.size
    have hsz' : w.heap.size < wr.heap.size := by have := hsz; simp at this; omega
    have hbw : Below w.heap.size w wr := ((Below.refl _ _).alloc (Nat.le_refl _) _).trans (hb.mono (by omega))
    have HRG := hide (range_below (range_alloc w (nms nm) _) (by simpa using hb) : wr.rangeAt w.heap.size 0 (nms nm))
    have HBW := hide hbw
    have HB := hide hb
    have d0 := (hbw.cell (p := ⟨p, 0, none⟩) hpl).trans hcp
    by_cases hkl : k < N
    · obtain ⟨a, va, hap, hca, hAA⟩ := unhide HALL k hkl
      rw [sts_ap] at hap
      have hkl2 := (List.getElem?_eq_some_iff.1 hap).1
      have hka := (List.getElem?_eq_some_iff.1 hap).2
      have hdrop : (sts s x).drop k = a :: (sts s x).drop (k + 1) := by rw [List.drop_eq_getElem_cons hkl2, hka]
      have hN2 := unhide hN
      rw [hdrop, minH_cons] at hN2
      clear hN hdrop hap hka hkl2
      have d1 := (hbw.cell (p := ⟨gv, k, none⟩) hgl).trans hca
      have hab := altH_bd (s := s) hnm hlb (fe s a).1
      have hlen := fe_len s a
      have HMEM : Hid (∀ f ∈ (fe s a).1, isF s f = true) := hide (fun f hf => (fe_mem hf).1)
      have hwB : B ≤ wr.heap.size := Nat.le_trans hB hbw.size
      have HAA := hide (hAA.frame (w' := wr) (S' := fun b => b < B) (sub' := EA wr s m (fun b => b < B)) (fun b hbb => hbw.block b (Nat.lt_of_lt_of_le hbb hB)) (fun _ h => h) (fun p x h => h.below hbw hB))
      obtain ⟨ao, ca, rfl, _⟩ := hAA
      generalize hal : altH s nm (low s nm) (fe s a).1 = al at *
      have HAL := hide hal
      have HN := hide hN2
      clear hN2 hal hbw hb
      have HWB := hide hwB
      go_wp2
      have hu := Tryz.underlying61
      have hin : (Tryz.prog.info? 61).map (·.size) = some (nms nm).length := by rw [nms_len]; exact Tryz.infoArr
      have hnl := nms_len nm
      have hno := nms_one nm
      go_region_held (fun w' => Below wr.heap.size wr w' ∧ w'.cell? ⟨p, 0, none⟩ = some (.slice (some ⟨gv, 0, none⟩) N cap) ∧ w'.cell? ⟨gv, k, none⟩ = some (.slice ao (fe s a).1.length ca) ∧ w'.rangeAt w.heap.size 0 (nms nm)) (first | exact keepL ((Below.refl _ _).drew) d0 d1 (unhide HRG) | exact keepL (((Below.refl wr.heap.size wr).drew).trans hb2) d0 d1 (unhide HRG)) (first | (go_at_call 151; refine (hA _ (fe s a).1 _ ?_ ?_ (unhide HMEM) ?_).mono ?_; exact unhide HWB; omega; exact (unhide HAA).frame (fun _ _ => rfl) (fun _ h => h) (fun p x h => h.below ((Below.refl _ _).drew) (unhide HWB)); rw [unhide HAL]; rintro e w2 ⟨rfl, hb2⟩))
      have HB2 := hide hb2
      clear hu hin hnl hno hb2
      by_cases hlt : al < best
      · have hN3 := unhide HN
        rw [if_pos hlt] at hN3
        have HN3 := hide hN3
        clear hN3
        go_wp2
        go_roundw
        case rel => exact ⟨k + 1, al, rfl, by go_num, by omega, by omega, by omega, ((unhide HB).drew).trans ((unhide HB2).mono (by show w.heap.size + 1 ≤ wr.heap.size; omega)), hide (unhide HN3)⟩
        case measure => simp [intOf]; omega
      · have hN3 := unhide HN
        rw [if_neg hlt] at hN3
        have HN3 := hide hN3
        clear hN3
        go_wp2
        go_roundw
        case rel => exact ⟨k + 1, best, rfl, by go_num, by omega, by omega, by omega, ((unhide HB).drew).trans ((unhide HB2).mono (by show w.heap.size + 1 ≤ wr.heap.size; omega)), hide (unhide HN3)⟩
        case measure => simp [intOf]; omega
    · have hN2 := unhide hN
      rw [List.drop_eq_nil_of_le (by rw [unhide HS]; omega)] at hN2
      have e : minH s nm (low s nm) [] best = best := rfl
      rw [e] at hN2
      subst hN2
      clear hN e hbw hb
      go_wp2
      go_ret
      exact ⟨rfl, unhide HBW⟩

theorem low_all {s : ByteArray} (hs : s.size ≤ 300) {nm : Nat → Int} (hnm : Nms nm) {B : Nat} : ∀ m, SaidL s nm B m
  | 0 => fun _ _ _ _ hE => hE.elim
  | m + 1 => low_any hs hnm (alt_any hnm (low_all hs hnm m))
theorem alt_all {s : ByteArray} (hs : s.size ≤ 300) {nm : Nat → Int} (hnm : Nms nm) {B : Nat} (m : Nat) : SaidA s nm B m := alt_any hnm (low_all hs hnm m)
end Go.Proofs.YtnfaiaoipeholaaGreat
