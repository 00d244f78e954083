/- PNew PNew2 PMake -/
import Derived.Test.YtnfaiaoipeholaaGreatDoorAa09
import Derived.Test.YtnfaiaoipeholaaGreatDoorAa02
import Derived.Deep.MidRow
import Derived.Deep.AppendLies
namespace Go.Proofs.YtnfaiaoipeholaaGreatDoor
open Go.RowKit

/-- a guide in memory that may be written -/
structure Gw (w : World) (b : Nat) (s : ByteArray) (m : Int) (P : Nat → Int) : Prop extends Gd w b s m P where
  frz : ∀ i, i < 26 → w.frozen? ⟨b, 2 + i, none⟩ = false
theorem Gw.set {w : World} {b : Nat} {s : ByteArray} {m : Int} {P : Nat → Int} (h : Gw w b s m P) {i : Nat} (hi : i < 26) (x : Int) : Gw (w.setCell ⟨b, 2 + i, none⟩ (.int .i64 x)) b s m (nmU P i x) := by
  refine ⟨⟨?_, ?_, fun j hj => ?_⟩, fun j hj => by rw [World.frozen?_setCell]; exact h.frz j hj⟩
  · rw [World.cell?_setCell_other w _ _ _ (fun e => by injection e with _ e; omega)]; exact h.gram
  · rw [World.cell?_setCell_other w _ _ _ (fun e => by injection e with _ e; omega)]; exact h.most
  · by_cases e : j = i
    · subst e
      rw [World.cell?_setCell_same w _ _ (h.low j hj)]; simp [nmU]
    · rw [World.cell?_setCell_other w _ _ _ (fun e2 => e (by injection e2 with _ e4; omega)), h.low j hj]; simp [nmU, e]
theorem Gw.congr {w : World} {b : Nat} {s : ByteArray} {m : Int} {P P' : Nat → Int} (h : Gw w b s m P) (e : ∀ i, i < 26 → P i = P' i) : Gw w b s m P' :=
  ⟨⟨h.gram, h.most, fun i hi => by rw [← e i hi]; exact h.low i hi⟩, h.frz⟩

set_option maxHeartbeats 400000 in
theorem alternatives_none {s : ByteArray} {m : Int} {P : Nat → Int} (left : Int) (b : Nat) (w : World) (_gd : Gd w b s m P) :
    Calls Tryz.prog 136 #[.pointer (some ⟨b, 0, none⟩), .int .i64 (-1), .int .i64 left, .int .i64 10] w fun e w' => e = .returned (.int .i64 0) ∧ w' = w := by
  go_enter Tryz.func136, Tryz.ntmps136
  go_wp2
  go_loop [9, 10, 11] (fun wv pv i => i = .int .i64 0 ∧ pv = .int .i64 (-1) ∧ wv = .int .i64 0) (fun _ _ i => 0)
  case atStart => exact ⟨rfl, rfl, rfl⟩
  case round =>
    obtain ⟨rfl, rfl, rfl⟩ := hrel
    go_wp2
    go_ret
    exact ⟨rfl, rfl⟩
set_option maxHeartbeats 400000 in
theorem expressionFits_none {s : ByteArray} {m : Int} {P : Nat → Int} (left : Int) (b : Nat) (w : World) (gd : Gd w b s m P) :
    Calls Tryz.prog 94 #[.pointer (some ⟨b, 0, none⟩), .int .i64 (-1), .int .i64 left] w fun e w' => e = .returned (.bool false) ∧ w' = w := by
  go_enter Tryz.func94, Tryz.ntmps94
  go_wp2_with (go_at_call 136; refine (alternatives_none left b _ gd).mono ?_; rintro e w' ⟨rfl, rfl⟩)
  go_ret; exact ⟨rfl, rfl⟩

/-- the heights while those of one height are found -/
def pwK (s : ByteArray) (h k : Nat) (i : Nat) : Int := if i < k then pw s (h + 1) i else pw s h i
theorem pwK_fit {s : ByteArray} {h k : Nat} (hh : h ≤ 8) : nmP (pwK s h k) h = fun j => decide (pw s h j < h) := by
  funext j
  unfold nmP pwK
  split
  · rw [pw_succ]
    split
    · rename_i hc
      rw [hc.1, Bool.eq_iff_iff]; simp only [decide_eq_true_eq]; omega
    · rfl
  · rfl

set_option maxHeartbeats 1000000 in
theorem findLowest_any {s : ByteArray} {m : Int} (g : Gram s) (ten : Ten s) (h b : Nat) (w : World) (hh : h ≤ 8) (hq : Int) (eh : hq = h) (gd : Gw w b s m (pw s h)) :
    Calls Tryz.prog 91 #[.pointer (some ⟨b, 0, none⟩), .int .i64 hq] w fun e w' => e = .returned (.tuple #[]) ∧ Gw w' b s m (pw s (h + 1)) ∧ Below b w w' := by
  subst eh
  have hs := g.small
  go_enter Tryz.func91, Tryz.ntmps91
  go_wp2
  go_loopw [4] (fun iv wr => ∃ k : Nat, iv = .int .i64 k ∧ k ≤ 26 ∧ Hid (Gw wr b s m (pwK s h k)) ∧ Hid (Below b w wr)) (fun iv _ => 30 - (intOf iv).toNat)
  case atStart => exact ⟨0, rfl, Nat.zero_le _, hide (gd.congr (fun i _ => by simp [pwK])), hide (Below.refl _ _)⟩
  case round =>
    obtain ⟨k, rfl, hk, hI, hB⟩ := hrel
    by_cases hlt : k < 26
    · have c0 := (unhide hI).gram
      have c1 := (unhide hI).low k hlt
      have f1 := (unhide hI).frz k hlt
      have hpk : pwK s h k k = pw s h k := by unfold pwK; rw [if_neg (by omega)]
      rw [hpk] at c1
      have hI' : ∀ v : Int, v = pw s (h + 1) k → ∀ w2, Gw w2 b s m (nmU (pwK s h k) k v) → Gw w2 b s m (pwK s h (k + 1)) := fun v hv w2 hg => hg.congr (fun i _ => by
        unfold nmU pwK
        by_cases e : i = k
        · subst e; rw [if_pos rfl, if_pos (by omega), hv]
        · rw [if_neg e]
          by_cases e2 : i < k
          · rw [if_pos e2, if_pos (by omega)]
          · rw [if_neg e2, if_neg (by omega)])
      have hK : pw s (h + 1) k = pw s h k → Gw wr b s m (pwK s h (k + 1)) := fun hv => (unhide hI).congr (fun i _ => by
        unfold pwK
        by_cases e : i = k
        · subst e; rw [if_neg (by omega), if_pos (by omega), hv]
        · by_cases e2 : i < k
          · rw [if_pos e2, if_pos (by omega)]
          · rw [if_neg e2, if_neg (by omega)])
      have hbd := pw_bd s h k (by omega)
      by_cases hr : rl s (65 + k : Nat) = -1
      · have hv : pw s (h + 1) k = pw s h k := by rw [pw_succ, if_neg (fun hc => hc.2.1 hr)]
        have HK := hide (hK hv)
        have HR : Hid (rl s (65 + (k : Int)) = -1) := hide (by rw [show (65 + (k : Int)) = ((65 + k : Nat) : Int) by omega]; exact hr)
        clear hI' hK hv hr hpk
        by_cases h9 : pw s h k = 9
        · have h9' : (pw s h k == 9) = true := by simp [h9]
          clear h9
          go_wp2_with (first | (go_at_call 88; refine (expression_none s _ _ hs (unhide HR)).mono ?_; rintro e w' ⟨rfl, hw⟩; replace hw := hw.symm; subst hw) | (go_at_call 94; refine (expressionFits_none _ b _ (unhide hI).toGd).mono ?_; rintro e w' ⟨rfl, hw⟩; replace hw := hw.symm; subst hw))
          go_roundw
          case rel => exact ⟨k + 1, by go_num, by omega, HK, hB⟩
          case measure => simp [intOf]; omega
        · have h9' : (pw s h k == 9) = false := by simp [h9]
          clear h9
          go_wp2_with (first | (go_at_call 88; refine (expression_none s _ _ hs (unhide HR)).mono ?_; rintro e w' ⟨rfl, hw⟩; replace hw := hw.symm; subst hw))
          go_roundw
          case rel => exact ⟨k + 1, by go_num, by omega, HK, hB⟩
          case measure => simp [intOf]; omega
      · have hb0 := rl_bd s (65 + k : Nat)
        obtain ⟨j, hj⟩ : ∃ j : Nat, rl s (65 + k : Nat) = (j : Int) := ⟨(rl s (65 + k : Nat)).toNat, by omega⟩
        have hjs : j < s.size := by omega
        obtain ⟨hbg, hbj⟩ := rlF_spec s (65 + k : Nat) s.size 0 j hj
        have hrule := g.rule j hjs hbg
        have hj2 : j + 2 ≤ s.size := hrule.2.2.1
        have ht := hide (ten.rule j hjs hbg)
        have HR : Hid (rl s (65 + (k : Int)) = (j : Int)) := hide (by rw [show (65 + (k : Int)) = ((65 + k : Nat) : Int) by omega]; exact hj)
        have hX : SaidG s m (pwK s h k) h (s.size + 1) := expressionFits_all ten hs _
        have hxe : (rl s (65 + k : Nat) + 2).toNat = j + 2 := by omega
        have hsucc := pw_succ s h k
        rw [hxe] at hsucc
        by_cases h9 : pw s h k = 9
        · have h9' : (pw s h k == 9) = true := by simp [h9]
          cases hx : expFit s (nmP (pwK s h k) h) (j + 2)
          · have hv : pw s (h + 1) k = pw s h k := by
              rw [hsucc, if_neg]
              intro hc
              have := hc.2.2
              rw [← pwK_fit (k := k) hh, hx] at this; cases this
            have HK := hide (hK hv)
            have HX := hide hx
            clear hI' hK hv hr hpk h9 hb0 hj hbg hbj hrule hxe hsucc hx
            go_wp2_with (first | (go_at_call 88; refine (expression_any s _ j _ hs (unhide HR) hjs).mono ?_; rintro e w' ⟨rfl, hw⟩; replace hw := hw.symm; subst hw) | (go_at_call 94; refine (hX _ (j + 2) b _ (unhide hI).toGd (by go_num) hj2 (by omega) (unhide ht)).mono ?_; rintro e w' ⟨rfl, hw⟩; replace hw := hw.symm; subst hw; rw [unhide HX]))
            go_roundw
            case rel => exact ⟨k + 1, by go_num, by omega, HK, hB⟩
            case measure => simp [intOf]; omega
          · have hv : (h : Int) = pw s (h + 1) k := by
              rw [hsucc, if_pos ⟨h9, hr, by rw [← pwK_fit (k := k) hh]; exact hx⟩]
            have HK := hide (hI' _ hv)
            have HX := hide hx
            clear hI' hK hv hr hpk h9 hb0 hj hbg hbj hrule hxe hsucc hx
            go_wp2_with (first | (go_at_call 88; refine (expression_any s _ j _ hs (unhide HR) hjs).mono ?_; rintro e w' ⟨rfl, hw⟩; replace hw := hw.symm; subst hw) | (go_at_call 94; refine (hX _ (j + 2) b _ (unhide hI).toGd (by go_num) hj2 (by omega) (unhide ht)).mono ?_; rintro e w' ⟨rfl, hw⟩; replace hw := hw.symm; subst hw; rw [unhide HX]))
            go_roundw
            case rel => exact ⟨k + 1, by go_num, by omega, hide (unhide HK _ ((unhide hI).set hlt _)), hide ((unhide hB).setCell (p := ⟨b, 2 + k, none⟩) (Nat.le_refl _) _)⟩
            case measure => simp [intOf]; omega
        · have h9' : (pw s h k == 9) = false := by simp [h9]
          have hv : pw s (h + 1) k = pw s h k := by rw [hsucc, if_neg (fun hc => h9 hc.1)]
          have HK := hide (hK hv)
          clear hI' hK hv hr hpk h9 hb0 hj hbg hbj hrule hxe hsucc
          go_wp2_with (first | (go_at_call 88; refine (expression_any s _ j _ hs (unhide HR) hjs).mono ?_; rintro e w' ⟨rfl, hw⟩; replace hw := hw.symm; subst hw))
          go_roundw
          case rel => exact ⟨k + 1, by go_num, by omega, HK, hB⟩
          case measure => simp [intOf]; omega
    · have hk26 : k = 26 := by omega
      subst hk26
      go_wp2
      go_end0
      exact ⟨rfl, (unhide hI).congr (fun i hi => by unfold pwK; rw [if_pos hi]), unhide hB⟩
end Go.Proofs.YtnfaiaoipeholaaGreatDoor

namespace Go.Proofs.YtnfaiaoipeholaaGreatDoor
open Go.RowKit
/-- a guide as a value -/
def gds (s : ByteArray) (m : Int) (P : Nat → Int) : List Value := .string s :: .int .i64 m :: nms P
theorem gds_len (s : ByteArray) (m : Int) (P : Nat → Int) : (gds s m P).length = 28 := by simp [gds, nms_len]
theorem gds_one (s : ByteArray) (m : Int) (P : Nat → Int) : ∀ v ∈ gds s m P, v.oneCell' = true := by
  intro v hv
  simp only [gds, List.mem_cons] at hv
  rcases hv with rfl | rfl | hv
  · rfl
  · rfl
  · exact nms_one P v hv
theorem Tryz.infoGuide : (Tryz.prog.info? 81).map (·.size) = some 28 := by kernel_rfl
theorem Gd.range {w : World} {b : Nat} {s : ByteArray} {m : Int} {P : Nat → Int} (h : Gd w b s m P) : w.rangeAt b 0 (gds s m P) := by
  intro j v hv
  rw [Nat.zero_add]
  match j, hv with
  | 0, hv => simp only [gds, List.getElem?_cons_zero, Option.some.injEq] at hv; rw [← hv]; exact h.gram
  | 1, hv => simp only [gds, List.getElem?_cons_succ, List.getElem?_cons_zero, Option.some.injEq] at hv; rw [← hv]; exact h.most
  | j + 2, hv =>
    simp only [gds, List.getElem?_cons_succ] at hv
    have hj : j < 26 := by have := (List.getElem?_eq_some_iff.1 hv).1; rw [nms_len] at this; exact this
    rw [nms_at P j hj] at hv
    have := h.low j hj
    rw [Nat.add_comm] at this
    rw [this]; exact hv
theorem Gd.of_range {w : World} {b : Nat} {s : ByteArray} {m : Int} {P : Nat → Int} (h : w.rangeAt b 0 (gds s m P)) : Gd w b s m P := by
  refine ⟨?_, ?_, fun i hi => ?_⟩
  · have := h 0 _ rfl; simpa using this
  · have := h 1 _ rfl; simpa using this
  · have := h (2 + i) (.int .i64 (P i)) (by rw [Nat.add_comm]; simp only [gds, List.getElem?_cons_succ]; exact nms_at P i hi)
    rwa [Nat.zero_add] at this
theorem there_alloc (w : World) (C : Array Value) (t : TypeId) (n : Nat) (h : n ≤ C.size) : (w.alloc (.cells C t)).there w.heap.size 0 n := fun j hj => by
  refine ⟨?_, World.frozen?_alloc_new w C t (0 + j)⟩
  rw [Nat.zero_add, World.cell?_alloc_new]
  simp; omega
theorem there_below {w w1 : World} {b n B : Nat} (h : w.there b 0 n) (hb : Below B w w1) (hlt : b < B) : w1.there b 0 n := fun j hj => by
  obtain ⟨h1, h2⟩ := h j hj
  exact ⟨by rw [hb.cell (p := ⟨b, 0 + j, none⟩) hlt]; exact h1, (hb.frozen (p := ⟨b, 0 + j, none⟩) hlt).trans h2⟩

/-- two blocks, the second filled -/
theorem Gw.start (w : World) (s : ByteArray) (m : Int) (t : TypeId) (C : Array Value) (hC : C = (gds ⟨#[]⟩ 0 (fun _ => 0)).toArray) :
    ((w.alloc (.cells C t)).alloc (.cells C t)).there (w.heap.size + 1) 0 28 ∧
    Gw (((w.alloc (.cells C t)).alloc (.cells C t)).setCells (w.heap.size + 1) 0 (gds s m (fun _ => 0))) (w.heap.size + 1) s m (fun _ => 0) ∧
    Below w.heap.size w (((w.alloc (.cells C t)).alloc (.cells C t)).setCells (w.heap.size + 1) 0 (gds s m (fun _ => 0))) ∧
    (((w.alloc (.cells C t)).alloc (.cells C t)).setCells (w.heap.size + 1) 0 (gds s m (fun _ => 0))).there w.heap.size 0 28 := by
  subst hC
  have hz : (gds ⟨#[]⟩ 0 (fun _ => 0)).toArray.size = 28 := by simp [gds_len]
  generalize (gds ⟨#[]⟩ 0 (fun _ => 0)).toArray = C at *
  have h0 := there_alloc w C t 28 (by omega)
  have h1 := there_alloc (w.alloc (.cells C t)) C t 28 (by omega)
  rw [World.size_alloc] at h1
  have hb : Below w.heap.size w ((w.alloc (.cells C t)).alloc (.cells C t)) := ((Below.refl _ _).alloc (Nat.le_refl _) _).alloc (by simp) _
  have hb1 : Below (w.heap.size + 1) (w.alloc (.cells C t)) ((w.alloc (.cells C t)).alloc (.cells C t)) := (Below.refl _ _).alloc (by simp) _
  refine ⟨h1, ⟨Gd.of_range (World.rangeAt_setCells_same _ _ _ _ (by rw [gds_len]; exact h1)), fun i hi => ?_⟩, below_setRow _ (by omega) _ _ hb, ?_⟩
  · rw [World.frozen?_setCells]
    have := (h1 (2 + i) (by omega)).2
    rwa [Nat.zero_add] at this
  · exact there_below h0 (below_setRow _ (Nat.le_refl _) _ _ hb1) (by omega)

set_option maxHeartbeats 1000000 in
set_option maxRecDepth 1000000 in
theorem newGuide_any {s : ByteArray} (g : Gram s) (ten : Ten s) (m : Int) (w : World) :
    Calls Tryz.prog 51 #[.string s, .int .i64 m] w fun e w' => e = .returned (.agg (gds s m (pw s 9)).toArray) ∧ Below w.heap.size w w' := by
  have hin : ∀ P : Nat → Int, Hid ((Tryz.prog.info? 81).map (·.size) = some (gds s m P).length) := fun P => hide (by rw [gds_len]; exact Tryz.infoGuide)
  obtain ⟨t1, g1, b1, t0⟩ := Gw.start w s m 81 #[.string ⟨#[]⟩, .int .i64 0, .int .i64 0, .int .i64 0, .int .i64 0, .int .i64 0, .int .i64 0, .int .i64 0, .int .i64 0, .int .i64 0, .int .i64 0, .int .i64 0, .int .i64 0, .int .i64 0, .int .i64 0, .int .i64 0, .int .i64 0, .int .i64 0, .int .i64 0, .int .i64 0, .int .i64 0, .int .i64 0, .int .i64 0, .int .i64 0, .int .i64 0, .int .i64 0, .int .i64 0, .int .i64 0] rfl
  have T1 := hide t1
  have G1 := hide g1
  have B1 := hide b1
  have T0 := hide t0
  clear t1 g1 b1 t0
  go_enter Tryz.func51, Tryz.ntmps51
  go_wp2_with (refine wpList_store_mid rfl 81 _ _ rfl (w.heap.size + 1) 0 (gds s m (fun _ => 0)).toArray rfl rfl (by simp only [List.size_toArray, gds_len]; exact unhide T1) (by simpa using unhide (hin _)) (all_oneCell_toArray (gds_one _ _ _)) ?_)
  clear T1
  generalize hw1 : World.setCells _ (w.heap.size + 1) 0 (gds s m fun _ => 0) = w1 at *
  clear hw1
  go_loopw [6] (fun iv wr => ∃ k : Nat, iv = .int .i64 k ∧ k ≤ 26 ∧ Hid (Gw wr (w.heap.size + 1) s m (fun j => if j < k then 9 else 0)) ∧ Hid (Below (w.heap.size + 1) w1 wr)) (fun iv _ => 30 - (intOf iv).toNat)
  case atStart => exact ⟨0, rfl, Nat.zero_le _, hide ((unhide G1).congr (fun i _ => by simp)), hide (Below.refl _ _)⟩
  case round =>
    obtain ⟨k, rfl, hk, hI, hB⟩ := hrel
    by_cases hlt : k < 26
    · have c0 := (unhide hI).low k hlt
      have f0 := (unhide hI).frz k hlt
      go_wp2
      go_roundw
      case rel =>
        refine ⟨k + 1, by go_num, by omega, hide (((unhide hI).set hlt 9).congr (fun i _ => ?_)), hide ((unhide hB).setCell (p := ⟨w.heap.size + 1, 2 + k, none⟩) (Nat.le_refl _) _)⟩
        unfold nmU
        by_cases e : i = k
        · subst e; simp
        · rw [if_neg e]
          show (if i < k then (9 : Int) else 0) = _
          by_cases e2 : i < k
          · rw [if_pos e2, if_pos (by omega)]
          · rw [if_neg e2, if_neg (by omega)]
      case measure => simp [intOf]; omega
    · have hI2 := hide ((unhide hI).congr (P' := pw s 0) (fun i hi => by show (if i < k then (9 : Int) else 0) = _; rw [if_pos (by omega)]; rfl))
      clear hI
      go_wp2
      go_loopw [7] (fun rv wr2 => ∃ r : Nat, rv = .int .i64 r ∧ r ≤ 9 ∧ Hid (Gw wr2 (w.heap.size + 1) s m (pw s r)) ∧ Hid (Below (w.heap.size + 1) w1 wr2)) (fun rv _ => 30 - (intOf rv).toNat)
      case atStart => exact ⟨0, rfl, Nat.zero_le _, hI2, hB⟩
      case round =>
        obtain ⟨r, rfl, hr, hJ, hC⟩ := hrel
        by_cases hlr : r < 9
        · go_wp2_with (go_at_call 91; refine (findLowest_any g ten r _ _ (by omega) _ rfl (unhide hJ)).mono ?_; rintro e w2 ⟨rfl, hg2, hb2⟩; replace hg2 := hide hg2; replace hb2 := hide hb2)
          go_roundw
          case rel => exact ⟨r + 1, by go_num, by omega, hg2, hide ((unhide hC).trans (unhide hb2))⟩
          case measure => simp [intOf]; omega
        · have hr9 : r = 9 := by omega
          subst hr9
          have hT := hide (there_below (unhide T0) (unhide hC) (by omega))
          go_wp2_with (first | (refine wpList_load_mid rfl 81 _ rfl (w.heap.size + 1) 0 rfl (gds s m (pw s 9)) _ (unhide hJ).range Tryz.underlying81 rfl (unhide (hin _)) ?_) | (refine wpList_store_mid rfl 81 _ _ rfl w.heap.size 0 (gds s m (pw s 9)).toArray rfl rfl (by simp only [List.size_toArray, gds_len]; exact unhide hT) (by simpa using unhide (hin _)) (all_oneCell_toArray (gds_one _ _ _)) ?_))
          refine bodyPost_ret (v := .agg (gds s m (pw s 9)).toArray) (results_cell_mid Tryz.results51 _ _ w.heap.size (gds s m (pw s 9)) _ rfl (World.rangeAt_setCells_same _ _ _ _ ?_) Tryz.underlying81 rfl (unhide (hin _))) rfl ⟨rfl, ?_⟩
          · rw [gds_len]; exact unhide hT
          · exact below_setRow _ (Nat.le_refl _) _ _ ((unhide B1).trans ((unhide hC).mono (by omega)))
end Go.Proofs.YtnfaiaoipeholaaGreatDoor

namespace Go.Proofs.YtnfaiaoipeholaaGreatDoor
open Go.RowKit

/-- bytes as cells -/
def byts (T : List Int) : List Value := T.map (Value.int .u8)
theorem byts_push (T : List Int) (c : Int) : byts (T ++ [c]) = byts T ++ [.int .u8 c] := by simp [byts]
/-- a maker in memory -/
structure Mk (w : World) (b : Nat) (s c : ByteArray) (m : Int) (P : Nat → Int) (a : Nat) (T : List Int) : Prop where
  gd : Gd w b s m P
  lt : b < w.heap.size
  chs : w.cell? ⟨b, 28, none⟩ = some (.string c)
  tak : w.cell? ⟨b, 29, none⟩ = some (.int .i64 a)
  tkf : w.frozen? ⟨b, 29, none⟩ = false
  tre : ∃ v, w.cell? ⟨b, 30, none⟩ = some v ∧ w.ownsRow (b + 1) 5 1 v T.length (byts T)
  trf : w.frozen? ⟨b, 30, none⟩ = false
theorem own_set {w : World} {b o n : Nat} {v u : Value} {t : TypeId} {xs : List Value} (h : w.ownsRow (b + 1) t 1 v n xs) : (w.setCell ⟨b, o, none⟩ u).ownsRow (b + 1) t 1 v n xs := by
  have hb : Below b w (w.setCell ⟨b, o, none⟩ u) := (Below.refl _ _).setCell (p := ⟨b, o, none⟩) (Nat.le_refl _) u
  refine h.kept (row := some b) ⟨hb.os, hb.tape, hb.output, hb.size, fun k hk hne => Below.heap_setCell w _ u k (fun e => hne (by rw [e]))⟩ ?_
  cases hv : v.ownBlock with
  | none => exact .inl rfl
  | some k =>
    have := (h.lt k hv).1
    exact .inr (fun e => by injection e with e; omega)
section
variable {w : World} {b : Nat} {s c : ByteArray} {m : Int} {P : Nat → Int} {a : Nat} {T : List Int}
theorem Mk.drew (h : Mk w b s c m P a T) : Mk w.drew b s c m P a T := ⟨⟨h.gd.gram, h.gd.most, h.gd.low⟩, h.lt, h.chs, h.tak, h.tkf, h.tre, h.trf⟩
theorem Mk.take (h : Mk w b s c m P a T) (x : Nat) : Mk (w.setCell ⟨b, 29, none⟩ (.int .i64 x)) b s c m P x T := by
  have ho : ∀ o, o ≠ 29 → (w.setCell ⟨b, 29, none⟩ (.int .i64 x)).cell? ⟨b, o, none⟩ = w.cell? ⟨b, o, none⟩ := fun o ho => World.cell?_setCell_other w _ _ _ (fun e => ho (by injection e with _ e; exact e.symm))
  obtain ⟨v, h1, h2⟩ := h.tre
  refine ⟨⟨(ho 0 (by omega)).trans h.gd.gram, (ho 1 (by omega)).trans h.gd.most, fun i hi => (ho _ (by omega)).trans (h.gd.low i hi)⟩, by simpa using h.lt, (ho 28 (by omega)).trans h.chs, World.cell?_setCell_same w _ _ h.tak, by rw [World.frozen?_setCell]; exact h.tkf, ⟨v, (ho 30 (by omega)).trans h1, own_set h2⟩, by rw [World.frozen?_setCell]; exact h.trf⟩

set_option maxHeartbeats 400000 in
theorem isBig_any (hm : Mk w b s c m P a T) (hT : T.length ≤ 10000) : Calls Tryz.prog 54 #[.pointer (some ⟨b, 0, none⟩)] w fun e w' => e = .returned (.bool (decide (2000 < T.length))) ∧ w' = w := by
  obtain ⟨v, h1, h2⟩ := hm.tre
  obtain ⟨a0, cap, hv⟩ : ∃ a0 cap, v = .slice a0 T.length cap := by
    rcases h2.2 with ⟨e, h0⟩ | ⟨g, cap, _, e, _⟩
    · exact ⟨none, 0, by rw [e, h0]⟩
    · exact ⟨_, cap, e⟩
  subst hv
  clear h2
  go_enter Tryz.func54, Tryz.ntmps54
  go_wp2
  go_ret; exact ⟨ret_bool (by simp only [decide_eq_decide]; omega), rfl⟩

set_option maxHeartbeats 400000 in
set_option maxRecDepth 1000000 in
theorem write_any (hm : Mk w b s c m P a T) (hT : T.length ≤ 10000) (x : Int) : Calls Tryz.prog 95 #[.pointer (some ⟨b, 0, none⟩), .int .u8 x] w fun e w' => e = .returned (.tuple #[]) ∧ Mk w' b s c m P a (T ++ [x]) ∧ Below b w w' := by
  obtain ⟨v, h1, h2⟩ := hm.tre
  obtain ⟨i1, hi1, hy0, hy1, hy2⟩ := info_parts Tryz.infoByte
  have h3 := hm.trf
  have HM := hide hm
  go_enter Tryz.func95, Tryz.ntmps95
  go_wp2_with (first | (at_builtin; refine wpList_append_lies _ rfl _ _ 83 rfl (b + 1) 5 i1 (.int .u8 0) 1 1 Tryz.underlying83 hi1 hy0 hy1 hy2 rfl (by decide) _ _ _ rfl (h2.alloc _) ⟨_, 0, none⟩ 1 1 [.int .u8 x] rfl rfl ?c1 ?c2 ?c3 ?c4 ?c5 ?c6 _ rfl ?_))
  case c1 => exact World.news_of_block (heap_alloc_new _ _)
  case c2 => intro u hu; simp at hu; subst hu; rfl
  case c3 => omega
  case c4 => unfold maxLen; omega
  case c5 => omega
  case c6 => have := hm.lt; simp; omega
  · intro g1 cap1 w3 hown3 hg3 hb3 hlt3
    have hbel : Below (b + 1) w w3 := ((Below.refl (b + 1) w).alloc (by have := hm.lt; omega) _).grown hg3 (by have := hm.lt; simp; omega) (fun j hj => (h2.lt j hj).1)
    have hc : ∀ o, w3.cell? ⟨b, o, none⟩ = w.cell? ⟨b, o, none⟩ := fun o => hbel.cell (p := ⟨b, o, none⟩) (Nat.lt_succ_self b)
    have hf : ∀ o, w3.frozen? ⟨b, o, none⟩ = w.frozen? ⟨b, o, none⟩ := fun o => hbel.frozen (p := ⟨b, o, none⟩) (Nat.lt_succ_self b)
    have k1 := (hc 30).trans h1
    have k2 := (hf 30).trans h3
    have HC := hide hc; have HF := hide hf; have HO := hide hown3; have HB := hide hbel
    clear hc hf hown3 hbel hg3 hb3
    go_wp2
    go_end0
    refine ⟨rfl, ?_, Below.setCell (B := b) ((unhide HB).mono (Nat.le_succ b)) (p := ⟨b, 30, none⟩) (Nat.le_refl b) _⟩
    have hm := unhide HM
    have ho : ∀ o, o ≠ 30 → (w3.setCell ⟨b, 30, none⟩ (.slice (some ⟨g1, 0, none⟩) (T.length + 1) cap1)).cell? ⟨b, o, none⟩ = w.cell? ⟨b, o, none⟩ := fun o ho => (World.cell?_setCell_other w3 _ _ _ (fun e => ho (by injection e with _ e; exact e.symm))).trans (unhide HC o)
    refine ⟨⟨(ho 0 (by omega)).trans hm.gd.gram, (ho 1 (by omega)).trans hm.gd.most, fun i hi => (ho _ (by omega)).trans (hm.gd.low i hi)⟩, ?_, (ho 28 (by omega)).trans hm.chs, (ho 29 (by omega)).trans hm.tak, by rw [World.frozen?_setCell]; exact (unhide HF 29).trans hm.tkf, ⟨_, World.cell?_setCell_same w3 _ _ k1, ?_⟩, by rw [World.frozen?_setCell]; exact k2⟩
    · have := hm.lt; have := (unhide HB).size; simp; omega
    · rw [byts_push]
      have := own_set (b := b) (o := 30) (u := .slice (some ⟨g1, 0, none⟩) (T.length + 1) cap1) (unhide HO)
      simpa using this

set_option maxHeartbeats 400000 in
theorem choose_any (hm : Mk w b s c m P a T) (hc : c.size ≤ maxLen) (ha : a ≤ 100000) (q : Int) (n : Nat) (hq : q = n) (hn : n ≤ 1000) : Calls Tryz.prog 139 #[.pointer (some ⟨b, 0, none⟩), .int .i64 q] w fun e w' => e = .returned (.int .i64 (wayN c a n)) ∧ Mk w' b s c m P (wayA a n) T ∧ Below b w w' := by
  subst hq
  have h1 := hm.chs
  have h2 := hm.tak
  have h3 := hm.tkf
  have HM := hide hm
  clear hm
  by_cases h : n < 2
  · have e1 : wayN c a n = 0 := by unfold wayN; rw [if_pos h]
    have e2 : wayA a n = a := by unfold wayA; rw [if_pos h]
    rw [e1, e2]
    clear e1 e2
    go_enter Tryz.func139, Tryz.ntmps139
    go_wp2
    go_ret; exact ⟨rfl, unhide HM, Below.refl _ _⟩
  · have e2 : wayA a n = a + 1 := by unfold wayA; rw [if_neg h]
    have HK := hide ((unhide HM).drew.take (a + 1))
    rw [e2]
    have HB : Hid (∀ u : Value, Below b w (w.drew.setCell ⟨b, 29, none⟩ u)) := hide (fun u => ((Below.refl _ _).drew).setCell (p := ⟨b, 29, none⟩) (Nat.le_refl _) u)
    have HK2 := hide ((unhide HM).take (a + 1)).drew
    have HB2 : Hid (∀ u : Value, Below b w (w.setCell ⟨b, 29, none⟩ u).drew) := hide (fun u => ((Below.refl _ _).setCell (p := ⟨b, 29, none⟩) (Nat.le_refl _) u).drew)
    clear e2
    cases hd : cD (bt c a)
    · have e1 : wayN c a n = 0 := by unfold wayN dig; rw [if_neg h, if_neg (by simp [hd])]; simp
      rw [e1]
      have HD := hide hd
      clear e1 hd
      go_enter Tryz.func139, Tryz.ntmps139
      go_wp2
      go_region_with (go_at_call 87; refine (at_any _ _ _ hc).mono ?_; rintro e w' ⟨rfl, rfl⟩)
      go_wp2_with (go_at_call 90; refine (isDigit_any _ _).mono ?_; rintro e w' ⟨rfl, rfl⟩; rw [unhide HD])
      all_goals (go_ret; exact ⟨rfl, by first | exact unhide HK | exact unhide HK2, by first | exact unhide HB _ | exact unhide HB2 _⟩)
    · have hv : 48 ≤ bt c a ∧ bt c a ≤ 57 := by simpa [cD] using hd
      obtain ⟨hv1, hv2⟩ := hv
      have e1 : (wayN c a n : Int) = (bt c a - 48) % n := by
        unfold wayN dig; rw [if_neg h, if_pos hd]
        have : ((bt c a - 48).toNat : Int) = bt c a - 48 := by omega
        rw [← this]; simp
      have hne : (n : Int) ≠ 0 := by omega
      rw [e1]
      have HD := hide hd
      clear e1 hd
      go_enter Tryz.func139, Tryz.ntmps139
      go_wp2
      go_region_with (go_at_call 87; refine (at_any _ _ _ hc).mono ?_; rintro e w' ⟨rfl, rfl⟩)
      go_wp2_with (go_at_call 90; refine (isDigit_any _ _).mono ?_; rintro e w' ⟨rfl, rfl⟩; rw [unhide HD])
      all_goals (go_ret; exact ⟨rfl, by first | exact unhide HK | exact unhide HK2, by first | exact unhide HB _ | exact unhide HB2 _⟩)
end
end Go.Proofs.YtnfaiaoipeholaaGreatDoor
