/- The program's guide: how it is made. -/
import Derived.Test.YtnfaiaoipeholaaPNew
namespace Go.Proofs.Ytnfaiaoipeholaa
open Go.RowKit
/-- a guide as a value -/
def gds (s : ByteArray) (m : Int) (P : Nat → Int) : List Value := .string s :: .int .i64 m :: nms P
theorem gds_len (s : ByteArray) (m : Int) (P : Nat → Int) : (gds s m P).length = 28 := by simp [gds, nms_len]
theorem gds_one (s : ByteArray) (m : Int) (P : Nat → Int) : ∀ v ∈ gds s m P, v.oneCell' = true := by
  intro v hv
  simp only [gds, List.mem_cons] at hv
  rcases hv with rfl | rfl | hv
  · rfl
  · rfl
  · exact nms_one P v hv
theorem Try.infoGuide : (Try.prog.info? 52).map (·.size) = some 28 := by kernel_rfl
theorem Gd.range {w : World} {b : Nat} {s : ByteArray} {m : Int} {P : Nat → Int} (h : Gd w b s m P) : w.rangeAt b 0 (gds s m P) := by
  intro j v hv
  rw [Nat.zero_add]
  match j, hv with
  | 0, hv => simp only [gds, List.getElem?_cons_zero, Option.some.injEq] at hv; rw [← hv]; exact h.gram
  | 1, hv => simp only [gds, List.getElem?_cons_succ, List.getElem?_cons_zero, Option.some.injEq] at hv; rw [← hv]; exact h.most
  | j + 2, hv =>
    simp only [gds, List.getElem?_cons_succ] at hv
    have hj : j < 26 := by have := (List.getElem?_eq_some_iff.1 hv).1; rw [nms_len] at this; exact this
    rw [nms_at P j hj] at hv
    have := h.low j hj
    rw [Nat.add_comm] at this
    rw [this]; exact hv
theorem Gd.of_range {w : World} {b : Nat} {s : ByteArray} {m : Int} {P : Nat → Int} (h : w.rangeAt b 0 (gds s m P)) : Gd w b s m P := by
  refine ⟨?_, ?_, fun i hi => ?_⟩
  · have := h 0 _ rfl; simpa using this
  · have := h 1 _ rfl; simpa using this
  · have := h (2 + i) (.int .i64 (P i)) (by rw [Nat.add_comm]; simp only [gds, List.getElem?_cons_succ]; exact nms_at P i hi)
    rwa [Nat.zero_add] at this
theorem there_alloc (w : World) (C : Array Value) (t : TypeId) (n : Nat) (h : n ≤ C.size) : (w.alloc (.cells C t)).there w.heap.size 0 n := fun j hj => by
  refine ⟨?_, World.frozen?_alloc_new w C t (0 + j)⟩
  rw [Nat.zero_add, World.cell?_alloc_new]
  simp; omega
theorem there_below {w w1 : World} {b n B : Nat} (h : w.there b 0 n) (hb : Below B w w1) (hlt : b < B) : w1.there b 0 n := fun j hj => by
  obtain ⟨h1, h2⟩ := h j hj
  exact ⟨by rw [hb.cell (p := ⟨b, 0 + j, none⟩) hlt]; exact h1, (hb.frozen (p := ⟨b, 0 + j, none⟩) hlt).trans h2⟩

/-- two blocks, the second filled -/
theorem Gw.start (w : World) (s : ByteArray) (m : Int) (t : TypeId) (C : Array Value) (hC : C = (gds ⟨#[]⟩ 0 (fun _ => 0)).toArray) :
    ((w.alloc (.cells C t)).alloc (.cells C t)).there (w.heap.size + 1) 0 28 ∧
    Gw (((w.alloc (.cells C t)).alloc (.cells C t)).setCells (w.heap.size + 1) 0 (gds s m (fun _ => 0))) (w.heap.size + 1) s m (fun _ => 0) ∧
    Below w.heap.size w (((w.alloc (.cells C t)).alloc (.cells C t)).setCells (w.heap.size + 1) 0 (gds s m (fun _ => 0))) ∧
    (((w.alloc (.cells C t)).alloc (.cells C t)).setCells (w.heap.size + 1) 0 (gds s m (fun _ => 0))).there w.heap.size 0 28 := by
  subst hC
  have hz : (gds ⟨#[]⟩ 0 (fun _ => 0)).toArray.size = 28 := by simp [gds_len]
  generalize (gds ⟨#[]⟩ 0 (fun _ => 0)).toArray = C at *
  have h0 := there_alloc w C t 28 (by omega)
  have h1 := there_alloc (w.alloc (.cells C t)) C t 28 (by omega)
  rw [World.size_alloc] at h1
  have hb : Below w.heap.size w ((w.alloc (.cells C t)).alloc (.cells C t)) := ((Below.refl _ _).alloc (Nat.le_refl _) _).alloc (by simp) _
  have hb1 : Below (w.heap.size + 1) (w.alloc (.cells C t)) ((w.alloc (.cells C t)).alloc (.cells C t)) := (Below.refl _ _).alloc (by simp) _
  refine ⟨h1, ⟨Gd.of_range (World.rangeAt_setCells_same _ _ _ _ (by rw [gds_len]; exact h1)), fun i hi => ?_⟩, below_setRow _ (by omega) _ _ hb, ?_⟩
  · rw [World.frozen?_setCells]
    have := (h1 (2 + i) (by omega)).2
    rwa [Nat.zero_add] at this
  · exact there_below h0 (below_setRow _ (Nat.le_refl _) _ _ hb1) (by omega)

set_option maxHeartbeats 1000000 in
set_option maxRecDepth 1000000 in
theorem newGuide_any {s : ByteArray} (g : Gram s) (ten : Ten s) (m : Int) (w : World) :
    Calls Try.prog 33 #[.string s, .int .i64 m] w fun e w' => e = .returned (.agg (gds s m (pw s 9)).toArray) ∧ Below w.heap.size w w' := by
  have hin : ∀ P : Nat → Int, Hid ((Try.prog.info? 52).map (·.size) = some (gds s m P).length) := fun P => hide (by rw [gds_len]; exact Try.infoGuide)
  obtain ⟨t1, g1, b1, t0⟩ := Gw.start w s m 52 #[.string ⟨#[]⟩, .int .i64 0, .int .i64 0, .int .i64 0, .int .i64 0, .int .i64 0, .int .i64 0, .int .i64 0, .int .i64 0, .int .i64 0, .int .i64 0, .int .i64 0, .int .i64 0, .int .i64 0, .int .i64 0, .int .i64 0, .int .i64 0, .int .i64 0, .int .i64 0, .int .i64 0, .int .i64 0, .int .i64 0, .int .i64 0, .int .i64 0, .int .i64 0, .int .i64 0, .int .i64 0, .int .i64 0] rfl
  have T1 := hide t1
  have G1 := hide g1
  have B1 := hide b1
  have T0 := hide t0
  clear t1 g1 b1 t0
  go_enter Try.func33, Try.ntmps33
  go_wp2_with (refine wpList_store_mid rfl 52 _ _ rfl (w.heap.size + 1) 0 (gds s m (fun _ => 0)).toArray rfl rfl (by simp only [List.size_toArray, gds_len]; exact unhide T1) (by simpa using unhide (hin _)) (all_oneCell_toArray (gds_one _ _ _)) ?_)
  clear T1
  generalize hw1 : World.setCells _ (w.heap.size + 1) 0 (gds s m fun _ => 0) = w1 at *
  clear hw1
  go_loopw [6] (fun iv wr => ∃ k : Nat, iv = .int .i64 k ∧ k ≤ 26 ∧ Hid (Gw wr (w.heap.size + 1) s m (fun j => if j < k then 9 else 0)) ∧ Hid (Below (w.heap.size + 1) w1 wr)) (fun iv _ => 30 - (intOf iv).toNat)
  case atStart => exact ⟨0, rfl, Nat.zero_le _, hide ((unhide G1).congr (fun i _ => by simp)), hide (Below.refl _ _)⟩
  case round =>
    obtain ⟨k, rfl, hk, hI, hB⟩ := hrel
    by_cases hlt : k < 26
    · have c0 := (unhide hI).low k hlt
      have f0 := (unhide hI).frz k hlt
      go_wp2
      go_roundw
      case rel =>
        refine ⟨k + 1, by go_num, by omega, hide (((unhide hI).set hlt 9).congr (fun i _ => ?_)), hide ((unhide hB).setCell (p := ⟨w.heap.size + 1, 2 + k, none⟩) (Nat.le_refl _) _)⟩
        unfold nmU
        by_cases e : i = k
        · subst e; simp
        · rw [if_neg e]
          show (if i < k then (9 : Int) else 0) = _
          by_cases e2 : i < k
          · rw [if_pos e2, if_pos (by omega)]
          · rw [if_neg e2, if_neg (by omega)]
      case measure => simp [intOf]; omega
    · have hI2 := hide ((unhide hI).congr (P' := pw s 0) (fun i hi => by show (if i < k then (9 : Int) else 0) = _; rw [if_pos (by omega)]; rfl))
      clear hI
      go_wp2
      go_loopw [7] (fun rv wr2 => ∃ r : Nat, rv = .int .i64 r ∧ r ≤ 9 ∧ Hid (Gw wr2 (w.heap.size + 1) s m (pw s r)) ∧ Hid (Below (w.heap.size + 1) w1 wr2)) (fun rv _ => 30 - (intOf rv).toNat)
      case atStart => exact ⟨0, rfl, Nat.zero_le _, hI2, hB⟩
      case round =>
        obtain ⟨r, rfl, hr, hJ, hC⟩ := hrel
        by_cases hlr : r < 9
        · go_wp2_with (go_at_call 58; refine (findLowest_any g ten r _ _ (by omega) _ rfl (unhide hJ)).mono ?_; rintro e w2 ⟨rfl, hg2, hb2⟩; replace hg2 := hide hg2; replace hb2 := hide hb2)
          go_roundw
          case rel => exact ⟨r + 1, by go_num, by omega, hg2, hide ((unhide hC).trans (unhide hb2))⟩
          case measure => simp [intOf]; omega
        · have hr9 : r = 9 := by omega
          subst hr9
          have hT := hide (there_below (unhide T0) (unhide hC) (by omega))
          go_wp2_with (first | (refine wpList_load_mid rfl 52 _ rfl (w.heap.size + 1) 0 rfl (gds s m (pw s 9)) _ (unhide hJ).range Try.underlying52 rfl (unhide (hin _)) ?_) | (refine wpList_store_mid rfl 52 _ _ rfl w.heap.size 0 (gds s m (pw s 9)).toArray rfl rfl (by simp only [List.size_toArray, gds_len]; exact unhide hT) (by simpa using unhide (hin _)) (all_oneCell_toArray (gds_one _ _ _)) ?_))
          refine bodyPost_ret (v := .agg (gds s m (pw s 9)).toArray) (results_cell_mid Try.results33 _ _ w.heap.size (gds s m (pw s 9)) _ rfl (World.rangeAt_setCells_same _ _ _ _ ?_) Try.underlying52 rfl (unhide (hin _))) rfl ⟨rfl, ?_⟩
          · rw [gds_len]; exact unhide hT
          · exact below_setRow _ (Nat.le_refl _) _ _ ((unhide B1).trans ((unhide hC).mono (by omega)))
end Go.Proofs.Ytnfaiaoipeholaa
