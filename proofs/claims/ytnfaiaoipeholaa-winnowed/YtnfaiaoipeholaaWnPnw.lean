/- The program's guide: how it is made. -/
import Derived.Test.YtnfaiaoipeholaaPGuide
import Derived.Test.YtnfaiaoipeholaaCells
import Derived.Deep.MidRow
namespace Go.Proofs.Ytnfaiaoipeholaa
open Go.RowKit

/-- a guide in memory that may be written -/
structure Gw (w : World) (b : Nat) (s : ByteArray) (m : Int) (P : Nat → Int) : Prop extends Gd w b s m P where
  frz : ∀ i, i < 26 → w.frozen? ⟨b, 2 + i, none⟩ = false
theorem Gw.set {w : World} {b : Nat} {s : ByteArray} {m : Int} {P : Nat → Int} (h : Gw w b s m P) {i : Nat} (hi : i < 26) (x : Int) : Gw (w.setCell ⟨b, 2 + i, none⟩ (.int .i64 x)) b s m (nmU P i x) := by
  refine ⟨⟨?_, ?_, fun j hj => ?_⟩, fun j hj => by rw [World.frozen?_setCell]; exact h.frz j hj⟩
  · rw [World.cell?_setCell_other w _ _ _ (fun e => by injection e with _ e; omega)]; exact h.gram
  · rw [World.cell?_setCell_other w _ _ _ (fun e => by injection e with _ e; omega)]; exact h.most
  · by_cases e : j = i
    · subst e
      rw [World.cell?_setCell_same w _ _ (h.low j hj)]; simp [nmU]
    · rw [World.cell?_setCell_other w _ _ _ (fun e2 => e (by injection e2 with _ e4; omega)), h.low j hj]; simp [nmU, e]
theorem Gw.congr {w : World} {b : Nat} {s : ByteArray} {m : Int} {P P' : Nat → Int} (h : Gw w b s m P) (e : ∀ i, i < 26 → P i = P' i) : Gw w b s m P' :=
  ⟨⟨h.gram, h.most, fun i hi => by rw [← e i hi]; exact h.low i hi⟩, h.frz⟩

set_option maxHeartbeats 400000 in
theorem alternatives_none {s : ByteArray} {m : Int} {P : Nat → Int} (left : Int) (b : Nat) (w : World) (_gd : Gd w b s m P) :
    Calls Try.prog 96 #[.pointer (some ⟨b, 0, none⟩), .int .i64 (-1), .int .i64 left, .int .i64 10] w fun e w' => e = .returned (.int .i64 0) ∧ w' = w := by
  go_enter Try.func96, Try.ntmps96
  go_wp2
  go_loop [9, 10, 11] (fun wv pv i => i = .int .i64 0 ∧ pv = .int .i64 (-1) ∧ wv = .int .i64 0) (fun _ _ i => 0)
  case atStart => exact ⟨rfl, rfl, rfl⟩
  case round =>
    obtain ⟨rfl, rfl, rfl⟩ := hrel
    go_wp2
    go_ret
    exact ⟨rfl, rfl⟩
set_option maxHeartbeats 400000 in
theorem expressionFits_none {s : ByteArray} {m : Int} {P : Nat → Int} (left : Int) (b : Nat) (w : World) (gd : Gd w b s m P) :
    Calls Try.prog 63 #[.pointer (some ⟨b, 0, none⟩), .int .i64 (-1), .int .i64 left] w fun e w' => e = .returned (.bool false) ∧ w' = w := by
  go_enter Try.func63, Try.ntmps63
  go_wp2_with (go_at_call 96; refine (alternatives_none left b _ gd).mono ?_; rintro e w' ⟨rfl, rfl⟩)
  go_ret; exact ⟨rfl, rfl⟩

/-- the heights while those of one height are found -/
def pwK (s : ByteArray) (h k : Nat) (i : Nat) : Int := if i < k then pw s (h + 1) i else pw s h i
theorem pwK_fit {s : ByteArray} {h k : Nat} (hh : h ≤ 8) : nmP (pwK s h k) h = fun j => decide (pw s h j < h) := by
  funext j
  unfold nmP pwK
  split
  · rw [pw_succ]
    split
    · rename_i hc
      rw [hc.1, Bool.eq_iff_iff]; simp only [decide_eq_true_eq]; omega
    · rfl
  · rfl

set_option maxHeartbeats 1000000 in
theorem findLowest_any {s : ByteArray} {m : Int} (g : Gram s) (ten : Ten s) (h b : Nat) (w : World) (hh : h ≤ 8) (hq : Int) (eh : hq = h) (gd : Gw w b s m (pw s h)) :
    Calls Try.prog 58 #[.pointer (some ⟨b, 0, none⟩), .int .i64 hq] w fun e w' => e = .returned (.tuple #[]) ∧ Gw w' b s m (pw s (h + 1)) ∧ Below b w w' := by
  subst eh
  have hs := g.small
  go_enter Try.func58, Try.ntmps58
  go_wp2
  go_loopw [4] (fun iv wr => ∃ k : Nat, iv = .int .i64 k ∧ k ≤ 26 ∧ Hid (Gw wr b s m (pwK s h k)) ∧ Hid (Below b w wr)) (fun iv _ => 30 - (intOf iv).toNat)
  case atStart => exact ⟨0, rfl, Nat.zero_le _, hide (gd.congr (fun i _ => by simp [pwK])), hide (Below.refl _ _)⟩
  case round =>
    obtain ⟨k, rfl, hk, hI, hB⟩ := hrel
    by_cases hlt : k < 26
    · have c0 := (unhide hI).gram
      have c1 := (unhide hI).low k hlt
      have f1 := (unhide hI).frz k hlt
      have hpk : pwK s h k k = pw s h k := by unfold pwK; rw [if_neg (by omega)]
      rw [hpk] at c1
      have hI' : ∀ v : Int, v = pw s (h + 1) k → ∀ w2, Gw w2 b s m (nmU (pwK s h k) k v) → Gw w2 b s m (pwK s h (k + 1)) := fun v hv w2 hg => hg.congr (fun i _ => by
        unfold nmU pwK
        by_cases e : i = k
        · subst e; rw [if_pos rfl, if_pos (by omega), hv]
        · rw [if_neg e]
          by_cases e2 : i < k
          · rw [if_pos e2, if_pos (by omega)]
          · rw [if_neg e2, if_neg (by omega)])
      have hK : pw s (h + 1) k = pw s h k → Gw wr b s m (pwK s h (k + 1)) := fun hv => (unhide hI).congr (fun i _ => by
        unfold pwK
        by_cases e : i = k
        · subst e; rw [if_neg (by omega), if_pos (by omega), hv]
        · by_cases e2 : i < k
          · rw [if_pos e2, if_pos (by omega)]
          · rw [if_neg e2, if_neg (by omega)])
      have hbd := pw_bd s h k (by omega)
      by_cases hr : rl s (65 + k : Nat) = -1
      · have hv : pw s (h + 1) k = pw s h k := by rw [pw_succ, if_neg (fun hc => hc.2.1 hr)]
        have HK := hide (hK hv)
        have HR : Hid (rl s (65 + (k : Int)) = -1) := hide (by rw [show (65 + (k : Int)) = ((65 + k : Nat) : Int) by omega]; exact hr)
        clear hI' hK hv hr hpk
        by_cases h9 : pw s h k = 9
        · have h9' : (pw s h k == 9) = true := by simp [h9]
          clear h9
          go_wp2_with (first | (go_at_call 53; refine (expression_none s _ _ hs (unhide HR)).mono ?_; rintro e w' ⟨rfl, hw⟩; replace hw := hw.symm; subst hw) | (go_at_call 63; refine (expressionFits_none _ b _ (unhide hI).toGd).mono ?_; rintro e w' ⟨rfl, hw⟩; replace hw := hw.symm; subst hw))
          go_roundw
          case rel => exact ⟨k + 1, by go_num, by omega, HK, hB⟩
          case measure => simp [intOf]; omega
        · have h9' : (pw s h k == 9) = false := by simp [h9]
          clear h9
          go_wp2_with (first | (go_at_call 53; refine (expression_none s _ _ hs (unhide HR)).mono ?_; rintro e w' ⟨rfl, hw⟩; replace hw := hw.symm; subst hw))
          go_roundw
          case rel => exact ⟨k + 1, by go_num, by omega, HK, hB⟩
          case measure => simp [intOf]; omega
      · have hb0 := rl_bd s (65 + k : Nat)
        obtain ⟨j, hj⟩ : ∃ j : Nat, rl s (65 + k : Nat) = (j : Int) := ⟨(rl s (65 + k : Nat)).toNat, by omega⟩
        have hjs : j < s.size := by omega
        obtain ⟨hbg, hbj⟩ := rlF_spec s (65 + k : Nat) s.size 0 j hj
        have hrule := g.rule j hjs hbg
        have hj2 : j + 2 ≤ s.size := hrule.2.2.1
        have ht := hide (ten.rule j hjs hbg)
        have HR : Hid (rl s (65 + (k : Int)) = (j : Int)) := hide (by rw [show (65 + (k : Int)) = ((65 + k : Nat) : Int) by omega]; exact hj)
        have hX : SaidG s m (pwK s h k) h (s.size + 1) := expressionFits_all ten hs _
        have hxe : (rl s (65 + k : Nat) + 2).toNat = j + 2 := by omega
        have hsucc := pw_succ s h k
        rw [hxe] at hsucc
        by_cases h9 : pw s h k = 9
        · have h9' : (pw s h k == 9) = true := by simp [h9]
          cases hx : expFit s (nmP (pwK s h k) h) (j + 2)
          · have hv : pw s (h + 1) k = pw s h k := by
              rw [hsucc, if_neg]
              intro hc
              have := hc.2.2
              rw [← pwK_fit (k := k) hh, hx] at this; cases this
            have HK := hide (hK hv)
            have HX := hide hx
            clear hI' hK hv hr hpk h9 hb0 hj hbg hbj hrule hxe hsucc hx
            go_wp2_with (first | (go_at_call 53; refine (expression_any s _ j _ hs (unhide HR) hjs).mono ?_; rintro e w' ⟨rfl, hw⟩; replace hw := hw.symm; subst hw) | (go_at_call 63; refine (hX _ (j + 2) b _ (unhide hI).toGd (by go_num) hj2 (by omega) (unhide ht)).mono ?_; rintro e w' ⟨rfl, hw⟩; replace hw := hw.symm; subst hw; rw [unhide HX]))
            go_roundw
            case rel => exact ⟨k + 1, by go_num, by omega, HK, hB⟩
            case measure => simp [intOf]; omega
          · have hv : (h : Int) = pw s (h + 1) k := by
              rw [hsucc, if_pos ⟨h9, hr, by rw [← pwK_fit (k := k) hh]; exact hx⟩]
            have HK := hide (hI' _ hv)
            have HX := hide hx
            clear hI' hK hv hr hpk h9 hb0 hj hbg hbj hrule hxe hsucc hx
            go_wp2_with (first | (go_at_call 53; refine (expression_any s _ j _ hs (unhide HR) hjs).mono ?_; rintro e w' ⟨rfl, hw⟩; replace hw := hw.symm; subst hw) | (go_at_call 63; refine (hX _ (j + 2) b _ (unhide hI).toGd (by go_num) hj2 (by omega) (unhide ht)).mono ?_; rintro e w' ⟨rfl, hw⟩; replace hw := hw.symm; subst hw; rw [unhide HX]))
            go_roundw
            case rel => exact ⟨k + 1, by go_num, by omega, hide (unhide HK _ ((unhide hI).set hlt _)), hide ((unhide hB).setCell (p := ⟨b, 2 + k, none⟩) (Nat.le_refl _) _)⟩
            case measure => simp [intOf]; omega
        · have h9' : (pw s h k == 9) = false := by simp [h9]
          have hv : pw s (h + 1) k = pw s h k := by rw [hsucc, if_neg (fun hc => h9 hc.1)]
          have HK := hide (hK hv)
          clear hI' hK hv hr hpk h9 hb0 hj hbg hbj hrule hxe hsucc
          go_wp2_with (first | (go_at_call 53; refine (expression_any s _ j _ hs (unhide HR) hjs).mono ?_; rintro e w' ⟨rfl, hw⟩; replace hw := hw.symm; subst hw))
          go_roundw
          case rel => exact ⟨k + 1, by go_num, by omega, HK, hB⟩
          case measure => simp [intOf]; omega
    · have hk26 : k = 26 := by omega
      subst hk26
      go_wp2
      go_end0
      exact ⟨rfl, (unhide hI).congr (fun i hi => by unfold pwK; rw [if_pos hi]), unhide hB⟩
end Go.Proofs.Ytnfaiaoipeholaa
/- The program's guide: how it is made. -/
namespace Go.Proofs.Ytnfaiaoipeholaa
open Go.RowKit
/-- a guide as a value -/
def gds (s : ByteArray) (m : Int) (P : Nat → Int) : List Value := .string s :: .int .i64 m :: nms P
theorem gds_len (s : ByteArray) (m : Int) (P : Nat → Int) : (gds s m P).length = 28 := by simp [gds, nms_len]
theorem gds_one (s : ByteArray) (m : Int) (P : Nat → Int) : ∀ v ∈ gds s m P, v.oneCell' = true := by
  intro v hv
  simp only [gds, List.mem_cons] at hv
  rcases hv with rfl | rfl | hv
  · rfl
  · rfl
  · exact nms_one P v hv
theorem Try.infoGuide : (Try.prog.info? 52).map (·.size) = some 28 := by kernel_rfl
theorem Gd.range {w : World} {b : Nat} {s : ByteArray} {m : Int} {P : Nat → Int} (h : Gd w b s m P) : w.rangeAt b 0 (gds s m P) := by
  intro j v hv
  rw [Nat.zero_add]
  match j, hv with
  | 0, hv => simp only [gds, List.getElem?_cons_zero, Option.some.injEq] at hv; rw [← hv]; exact h.gram
  | 1, hv => simp only [gds, List.getElem?_cons_succ, List.getElem?_cons_zero, Option.some.injEq] at hv; rw [← hv]; exact h.most
  | j + 2, hv =>
    simp only [gds, List.getElem?_cons_succ] at hv
    have hj : j < 26 := by have := (List.getElem?_eq_some_iff.1 hv).1; rw [nms_len] at this; exact this
    rw [nms_at P j hj] at hv
    have := h.low j hj
    rw [Nat.add_comm] at this
    rw [this]; exact hv
theorem Gd.of_range {w : World} {b : Nat} {s : ByteArray} {m : Int} {P : Nat → Int} (h : w.rangeAt b 0 (gds s m P)) : Gd w b s m P := by
  refine ⟨?_, ?_, fun i hi => ?_⟩
  · have := h 0 _ rfl; simpa using this
  · have := h 1 _ rfl; simpa using this
  · have := h (2 + i) (.int .i64 (P i)) (by rw [Nat.add_comm]; simp only [gds, List.getElem?_cons_succ]; exact nms_at P i hi)
    rwa [Nat.zero_add] at this
theorem there_alloc (w : World) (C : Array Value) (t : TypeId) (n : Nat) (h : n ≤ C.size) : (w.alloc (.cells C t)).there w.heap.size 0 n := fun j hj => by
  refine ⟨?_, World.frozen?_alloc_new w C t (0 + j)⟩
  rw [Nat.zero_add, World.cell?_alloc_new]
  simp; omega
theorem there_below {w w1 : World} {b n B : Nat} (h : w.there b 0 n) (hb : Below B w w1) (hlt : b < B) : w1.there b 0 n := fun j hj => by
  obtain ⟨h1, h2⟩ := h j hj
  exact ⟨by rw [hb.cell (p := ⟨b, 0 + j, none⟩) hlt]; exact h1, (hb.frozen (p := ⟨b, 0 + j, none⟩) hlt).trans h2⟩

/-- two blocks, the second filled -/
theorem Gw.start (w : World) (s : ByteArray) (m : Int) (t : TypeId) (C : Array Value) (hC : C = (gds ⟨#[]⟩ 0 (fun _ => 0)).toArray) :
    ((w.alloc (.cells C t)).alloc (.cells C t)).there (w.heap.size + 1) 0 28 ∧
    Gw (((w.alloc (.cells C t)).alloc (.cells C t)).setCells (w.heap.size + 1) 0 (gds s m (fun _ => 0))) (w.heap.size + 1) s m (fun _ => 0) ∧
    Below w.heap.size w (((w.alloc (.cells C t)).alloc (.cells C t)).setCells (w.heap.size + 1) 0 (gds s m (fun _ => 0))) ∧
    (((w.alloc (.cells C t)).alloc (.cells C t)).setCells (w.heap.size + 1) 0 (gds s m (fun _ => 0))).there w.heap.size 0 28 := by
  subst hC
  have hz : (gds ⟨#[]⟩ 0 (fun _ => 0)).toArray.size = 28 := by simp [gds_len]
  generalize (gds ⟨#[]⟩ 0 (fun _ => 0)).toArray = C at *
  have h0 := there_alloc w C t 28 (by omega)
  have h1 := there_alloc (w.alloc (.cells C t)) C t 28 (by omega)
  rw [World.size_alloc] at h1
  have hb : Below w.heap.size w ((w.alloc (.cells C t)).alloc (.cells C t)) := ((Below.refl _ _).alloc (Nat.le_refl _) _).alloc (by simp) _
  have hb1 : Below (w.heap.size + 1) (w.alloc (.cells C t)) ((w.alloc (.cells C t)).alloc (.cells C t)) := (Below.refl _ _).alloc (by simp) _
  refine ⟨h1, ⟨Gd.of_range (World.rangeAt_setCells_same _ _ _ _ (by rw [gds_len]; exact h1)), fun i hi => ?_⟩, below_setRow _ (by omega) _ _ hb, ?_⟩
  · rw [World.frozen?_setCells]
    have := (h1 (2 + i) (by omega)).2
    rwa [Nat.zero_add] at this
  · exact there_below h0 (below_setRow _ (Nat.le_refl _) _ _ hb1) (by omega)

set_option maxHeartbeats 1000000 in
set_option maxRecDepth 1000000 in
theorem newGuide_any {s : ByteArray} (g : Gram s) (ten : Ten s) (m : Int) (w : World) :
    Calls Try.prog 33 #[.string s, .int .i64 m] w fun e w' => e = .returned (.agg (gds s m (pw s 9)).toArray) ∧ Below w.heap.size w w' := by
  have hin : ∀ P : Nat → Int, Hid ((Try.prog.info? 52).map (·.size) = some (gds s m P).length) := fun P => hide (by rw [gds_len]; exact Try.infoGuide)
  obtain ⟨t1, g1, b1, t0⟩ := Gw.start w s m 52 #[.string ⟨#[]⟩, .int .i64 0, .int .i64 0, .int .i64 0, .int .i64 0, .int .i64 0, .int .i64 0, .int .i64 0, .int .i64 0, .int .i64 0, .int .i64 0, .int .i64 0, .int .i64 0, .int .i64 0, .int .i64 0, .int .i64 0, .int .i64 0, .int .i64 0, .int .i64 0, .int .i64 0, .int .i64 0, .int .i64 0, .int .i64 0, .int .i64 0, .int .i64 0, .int .i64 0, .int .i64 0, .int .i64 0] rfl
  have T1 := hide t1
  have G1 := hide g1
  have B1 := hide b1
  have T0 := hide t0
  clear t1 g1 b1 t0
  go_enter Try.func33, Try.ntmps33
  go_wp2_with (refine wpList_store_mid rfl 52 _ _ rfl (w.heap.size + 1) 0 (gds s m (fun _ => 0)).toArray rfl rfl (by simp only [List.size_toArray, gds_len]; exact unhide T1) (by simpa using unhide (hin _)) (all_oneCell_toArray (gds_one _ _ _)) ?_)
  clear T1
  generalize hw1 : World.setCells _ (w.heap.size + 1) 0 (gds s m fun _ => 0) = w1 at *
  clear hw1
  go_loopw [6] (fun iv wr => ∃ k : Nat, iv = .int .i64 k ∧ k ≤ 26 ∧ Hid (Gw wr (w.heap.size + 1) s m (fun j => if j < k then 9 else 0)) ∧ Hid (Below (w.heap.size + 1) w1 wr)) (fun iv _ => 30 - (intOf iv).toNat)
  case atStart => exact ⟨0, rfl, Nat.zero_le _, hide ((unhide G1).congr (fun i _ => by simp)), hide (Below.refl _ _)⟩
  case round =>
    obtain ⟨k, rfl, hk, hI, hB⟩ := hrel
    by_cases hlt : k < 26
    · have c0 := (unhide hI).low k hlt
      have f0 := (unhide hI).frz k hlt
      go_wp2
      go_roundw
      case rel =>
        refine ⟨k + 1, by go_num, by omega, hide (((unhide hI).set hlt 9).congr (fun i _ => ?_)), hide ((unhide hB).setCell (p := ⟨w.heap.size + 1, 2 + k, none⟩) (Nat.le_refl _) _)⟩
        unfold nmU
        by_cases e : i = k
        · subst e; simp
        · rw [if_neg e]
          show (if i < k then (9 : Int) else 0) = _
          by_cases e2 : i < k
          · rw [if_pos e2, if_pos (by omega)]
          · rw [if_neg e2, if_neg (by omega)]
      case measure => simp [intOf]; omega
    · have hI2 := hide ((unhide hI).congr (P' := pw s 0) (fun i hi => by show (if i < k then (9 : Int) else 0) = _; rw [if_pos (by omega)]; rfl))
      clear hI
      go_wp2
      go_loopw [7] (fun rv wr2 => ∃ r : Nat, rv = .int .i64 r ∧ r ≤ 9 ∧ Hid (Gw wr2 (w.heap.size + 1) s m (pw s r)) ∧ Hid (Below (w.heap.size + 1) w1 wr2)) (fun rv _ => 30 - (intOf rv).toNat)
      case atStart => exact ⟨0, rfl, Nat.zero_le _, hI2, hB⟩
      case round =>
        obtain ⟨r, rfl, hr, hJ, hC⟩ := hrel
        by_cases hlr : r < 9
        · go_wp2_with (go_at_call 58; refine (findLowest_any g ten r _ _ (by omega) _ rfl (unhide hJ)).mono ?_; rintro e w2 ⟨rfl, hg2, hb2⟩; replace hg2 := hide hg2; replace hb2 := hide hb2)
          go_roundw
          case rel => exact ⟨r + 1, by go_num, by omega, hg2, hide ((unhide hC).trans (unhide hb2))⟩
          case measure => simp [intOf]; omega
        · have hr9 : r = 9 := by omega
          subst hr9
          have hT := hide (there_below (unhide T0) (unhide hC) (by omega))
          go_wp2_with (first | (refine wpList_load_mid rfl 52 _ rfl (w.heap.size + 1) 0 rfl (gds s m (pw s 9)) _ (unhide hJ).range Try.underlying52 rfl (unhide (hin _)) ?_) | (refine wpList_store_mid rfl 52 _ _ rfl w.heap.size 0 (gds s m (pw s 9)).toArray rfl rfl (by simp only [List.size_toArray, gds_len]; exact unhide hT) (by simpa using unhide (hin _)) (all_oneCell_toArray (gds_one _ _ _)) ?_))
          refine bodyPost_ret (v := .agg (gds s m (pw s 9)).toArray) (results_cell_mid Try.results33 _ _ w.heap.size (gds s m (pw s 9)) _ rfl (World.rangeAt_setCells_same _ _ _ _ ?_) Try.underlying52 rfl (unhide (hin _))) rfl ⟨rfl, ?_⟩
          · rw [gds_len]; exact unhide hT
          · exact below_setRow _ (Nat.le_refl _) _ _ ((unhide B1).trans ((unhide hC).mono (by omega)))
end Go.Proofs.Ytnfaiaoipeholaa
