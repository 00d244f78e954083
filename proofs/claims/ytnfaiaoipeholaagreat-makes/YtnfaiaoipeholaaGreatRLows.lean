/- The reference's least heights of all names: the walk. -/
import Derived.Test.YtnfaiaoipeholaaGreatRLow
namespace Go.Proofs.YtnfaiaoipeholaaGreat
open Go.RowKit

/-- one name's height reckoned anew -/
def lowStep (s : ByteArray) (nm : Nat → Int) (i : Nat) : Nat → Int := if rl s (65 + i : Nat) = -1 then nm else nmU nm i (low s nm (rl s (65 + i : Nat) + 2).toNat)
def lowRow (s : ByteArray) (nm : Nat → Int) : Nat → Nat → Int
  | 0 => nm
  | n + 1 => lowStep s (lowRow s nm n) n
/-- all of them, again and again -/
def lowsF (s : ByteArray) : Nat → Nat → Int
  | 0 => fun _ => 99
  | r + 1 => lowRow s (lowsF s r) 26
theorem nms_step {s : ByteArray} {nm : Nat → Int} (h : Nms nm) (i : Nat) : Nms (lowStep s nm i) := by
  unfold lowStep; split
  · exact h
  · intro j; unfold nmU; split
    · exact low_bd h _
    · exact h j
theorem nms_row {s : ByteArray} {nm : Nat → Int} (h : Nms nm) : ∀ n, Nms (lowRow s nm n)
  | 0 => h
  | n + 1 => nms_step (nms_row h n) n
theorem nms_lows (s : ByteArray) : ∀ r, Nms (lowsF s r)
  | 0 => fun _ => by simp [lowsF]
  | r + 1 => nms_row (nms_lows s r) 26

/-- the two arrays of the call -/
structure LI (w0 w : World) (nb rb : Nat) (nm : Nat → Int) : Prop where
  rng : w.rangeAt nb 0 (nms nm)
  nth : w.there nb 0 26
  rth : w.there rb 0 26
  bel : Below w0.heap.size w0 w
theorem LI.below {w0 w w1 : World} {nb rb : Nat} {nm : Nat → Int} (h : LI w0 w nb rb nm) (hb : Below w.heap.size w w1) : LI w0 w1 nb rb nm := by
  have hth : ∀ b, w.there b 0 26 → w1.there b 0 26 := fun b hh j hj => by
    obtain ⟨h1, h2⟩ := hh j hj
    obtain ⟨u, hu⟩ := Option.isSome_iff_exists.1 h1
    have hlt := World.block_lt_of_cell? w _ hu
    exact ⟨by rw [hb.cell (p := ⟨b, 0 + j, none⟩) hlt]; exact h1, (hb.frozen (p := ⟨b, 0 + j, none⟩) hlt).trans h2⟩
  exact ⟨range_below h.rng hb, hth nb h.nth, hth rb h.rth, h.bel.trans (hb.mono h.bel.size)⟩
theorem LI.set {w0 w : World} {nb rb : Nat} {nm : Nat → Int} (h : LI w0 w nb rb nm) {i : Nat} (hi : i < 26) (x : Int) (hnb : w0.heap.size ≤ nb) (hne : nb ≠ rb) : LI w0 (w.setCell ⟨nb, i, none⟩ (.int .i64 x)) nb rb (nmU nm i x) := by
  have hs : ∀ b o, ((w.setCell ⟨nb, i, none⟩ (.int .i64 x)).cell? ⟨b, o, none⟩).isSome = true ↔ (w.cell? ⟨b, o, none⟩).isSome = true := fun b o => by
    by_cases e : b = nb ∧ o = i
    · obtain ⟨rfl, rfl⟩ := e
      have := h.rng o _ (nms_at nm o hi)
      rw [Nat.zero_add] at this
      rw [World.cell?_setCell_same w _ _ this, this]; simp
    · rw [World.cell?_setCell_other w _ _ _ (fun e2 => e (by injection e2 with e3 e4; exact ⟨e3.symm, e4.symm⟩))]
  have hth : ∀ b, w.there b 0 26 → (w.setCell ⟨nb, i, none⟩ (.int .i64 x)).there b 0 26 := fun b hh j hj => ⟨(hs b (0 + j)).2 (hh j hj).1, by rw [World.frozen?_setCell]; exact (hh j hj).2⟩
  refine ⟨fun j v hv => ?_, hth nb h.nth, hth rb h.rth, h.bel.setCell (p := ⟨nb, i, none⟩) hnb _⟩
  have hj : j < 26 := by
    have := (List.getElem?_eq_some_iff.1 hv).1; rw [nms_len] at this; exact this
  rw [nms_at _ j hj] at hv
  by_cases e : j = i
  · subst e
    have := h.rng j _ (nms_at nm j hj)
    rw [Nat.zero_add] at this ⊢
    rw [World.cell?_setCell_same w _ _ this]
    simpa [nmU] using hv
  · rw [World.cell?_setCell_other w _ _ _ (fun e2 => e (by injection e2 with e3 e4; omega))]
    have := h.rng j _ (nms_at nm j hj)
    rw [this]
    simpa [nmU, e] using hv
theorem LI.at_ {w0 w : World} {nb rb : Nat} {nm : Nat → Int} (h : LI w0 w nb rb nm) {i : Nat} (hi : i < 26) : w.cell? ⟨nb, i, none⟩ = some (.int .i64 (nm i)) ∧ w.frozen? ⟨nb, i, none⟩ = false := by
  have h1 := h.rng i _ (nms_at nm i hi)
  have h2 := (h.nth i hi).2
  rw [Nat.zero_add] at h1 h2
  exact ⟨h1, h2⟩
theorem LI.congr {w0 w : World} {nb rb : Nat} {nm nm' : Nat → Int} (h : LI w0 w nb rb nm) (e : ∀ i, i < 26 → nm i = nm' i) : LI w0 w nb rb nm' := by
  have : nms nm = nms nm' := by
    unfold nms
    refine List.map_congr_left (fun i hi => ?_)
    rw [e i (by simpa using hi)]
  exact ⟨by rw [← this]; exact h.rng, h.nth, h.rth, h.bel⟩

theorem LI.start (w : World) (t : TypeId) (cs : Array Value) (hc : cs = (nms (fun _ => 0)).toArray) : LI w ((w.alloc (.cells cs t)).alloc (.cells cs t)) (w.heap.size + 1) w.heap.size (fun _ => 0) := by
  subst hc
  have h1 := range_alloc (w.alloc (.cells (nms (fun _ => 0)).toArray t)) (nms (fun _ => 0)) t
  rw [World.size_alloc] at h1
  have h0 : ((w.alloc (.cells (nms (fun _ => 0)).toArray t)).alloc (.cells (nms (fun _ => 0)).toArray t)).rangeAt w.heap.size 0 (nms (fun _ => 0)) := World.rangeAt_alloc (range_alloc w (nms (fun _ => 0)) t) _
  have some_of : ∀ {w : World} {b j : Nat}, w.rangeAt b 0 (nms (fun _ => 0)) → j < 26 → (w.cell? ⟨b, 0 + j, none⟩).isSome = true := fun h hj => by rw [h _ _ (nms_at _ _ hj)]; rfl
  refine ⟨h1, fun j hj => ⟨some_of h1 hj, ?_⟩, fun j hj => ⟨some_of h0 hj, ?_⟩, ((Below.refl _ _).alloc (Nat.le_refl _) _).alloc (by simp) _⟩
  · have := World.frozen?_alloc_new (w.alloc (.cells (nms (fun _ => 0)).toArray t)) (nms (fun _ => 0)).toArray t (0 + j)
    rw [World.size_alloc] at this
    exact this
  · rw [World.frozen?_alloc_old _ _ _ (by simp)]
    exact World.frozen?_alloc_new w _ _ _

set_option maxHeartbeats 1000000 in
set_option maxRecDepth 1000000 in
theorem lows_any {s : ByteArray} (hs : s.size ≤ 300) {B g : Nat} (w : World) (gr : Gr w s B g) (hB : B ≤ w.heap.size) :
    Calls Tryz.prog 63 #[.pointer (some ⟨g, 0, none⟩)] w fun e w' => e = .returned (.agg (nms (lowsF s 27)).toArray) ∧ Below w.heap.size w w' := by
  have HGR := hide gr
  have hgl : g < w.heap.size := Nat.lt_of_lt_of_le gr.lt hB
  clear gr
  go_enter Tryz.func63, Tryz.ntmps63
  go_wp2
  go_loopw [4] (fun iv wr => ∃ k : Nat, iv = .int .i64 k ∧ k ≤ 26 ∧ Hid (LI w wr (w.heap.size + 1) w.heap.size (fun j => if j < k then 99 else 0))) (fun iv _ => 30 - (intOf iv).toNat)
  case atStart => exact ⟨0, rfl, Nat.zero_le _, hide ((LI.start w _ _ rfl).congr (fun i _ => by simp))⟩
  case round =>
    obtain ⟨k, rfl, hk, hI⟩ := hrel
    by_cases hlt : k < 26
    · obtain ⟨c0, f0⟩ := (unhide hI).at_ hlt
      go_wp2
      go_roundw
      case rel =>
        refine ⟨k + 1, by go_num, by omega, hide (((unhide hI).set hlt 99 (by omega) (by omega)).congr (fun i _ => ?_))⟩
        unfold nmU
        by_cases e : i = k
        · subst e; simp
        · rw [if_neg e]
          show (if i < k then (99 : Int) else 0) = _
          by_cases e2 : i < k
          · rw [if_pos e2, if_pos (by omega)]
          · rw [if_neg e2, if_neg (by omega)]
      case measure => simp [intOf]; omega
    · have hI2 := hide ((unhide hI).congr (nm' := lowsF s 0) (fun i hi => by show (if i < k then (99 : Int) else 0) = _; rw [if_pos (by omega)]; rfl))
      clear hI
      go_wp2
      go_loopw [5] (fun rv wr2 => ∃ r : Nat, rv = .int .i64 r ∧ r ≤ 27 ∧ Hid (LI w wr2 (w.heap.size + 1) w.heap.size (lowsF s r))) (fun rv _ => 30 - (intOf rv).toNat)
      case atStart => exact ⟨0, rfl, Nat.zero_le _, hI2⟩
      case round =>
        obtain ⟨r, rfl, hr, hJ⟩ := hrel
        by_cases hlr : r ≤ 26
        · have hlr' : decide ((r : Int) ≤ 26) = true := by simp; omega
          go_wp2
          go_loopw [6] (fun iv wr3 => ∃ i : Nat, iv = .int .i64 i ∧ i ≤ 26 ∧ Hid (LI w wr3 (w.heap.size + 1) w.heap.size (lowRow s (lowsF s r) i))) (fun iv _ => 30 - (intOf iv).toNat)
          case atStart => exact ⟨0, rfl, Nat.zero_le _, hJ⟩
          case round =>
            obtain ⟨i, rfl, hi, hK⟩ := hrel
            by_cases hi26 : i < 26
            · have hnm : Nms (lowRow s (lowsF s r) i) := nms_row (nms_lows s r) i
              have hbel := (unhide hK).bel
              have hgr := (unhide HGR).below hbel hB
              by_cases hrl : rl s (65 + i : Nat) = -1
              · have c0 := hgr.nils i hi26 hrl
                have HST : Hid (lowRow s (lowsF s r) (i + 1) = lowRow s (lowsF s r) i) := hide (by show lowStep s (lowRow s (lowsF s r) i) i = _; unfold lowStep; rw [if_pos hrl])
                clear hrl hgr hbel hnm
                go_wp2
                go_roundw
                case rel => exact ⟨i + 1, by go_num, by omega, by rw [unhide HST]; exact hK⟩
                case measure => simp [intOf]; omega
              · have hb0 := rl_bd s (65 + i : Nat)
                obtain ⟨j, hj⟩ : ∃ j : Nat, rl s (65 + i : Nat) = (j : Int) := ⟨(rl s (65 + i : Nat)).toNat, by omega⟩
                obtain ⟨hbg, hbj⟩ := rlF_spec s (65 + i : Nat) s.size 0 j hj
                obtain ⟨p, m, j', h1, h2, h3, h4⟩ := hgr.rules j (by rw [hbj]; simp [cN]; omega)
                rw [hbj, hj] at h1
                have ejj : j' = j := by omega
                subst ejj
                rw [hbj, show (((65 + i : Nat) : Int) - 65).toNat = i by omega] at h3
                have HST : Hid (lowRow s (lowsF s r) (i + 1) = nmU (lowRow s (lowsF s r) i) i (low s (lowRow s (lowsF s r) i) (j' + 2))) := hide (by
                  show lowStep s (lowRow s (lowsF s r) i) i = _
                  unfold lowStep
                  rw [if_neg hrl, hj, show ((j' : Int) + 2).toNat = j' + 2 by omega])
                have hB3 : B ≤ wr.heap.size := Nat.le_trans hB hbel.size
                have HE := hide h4
                have HL := hide (low_all hs hnm (B := B) m)
                have HRG := hide (unhide hK).rng
                generalize hnmE : lowRow s (lowsF s r) i = nm at *
                have HNE := hide hnmE
                clear hrl hgr hbel hnm hb0 hj hbg hbj h1 h2 h4 hnmE
                go_wp2
                have hu := Tryz.underlying61
                have hin : (Tryz.prog.info? 61).map (·.size) = some (nms nm).length := by rw [nms_len]; exact Tryz.infoArr
                have hnl := nms_len nm
                have hno := nms_one nm
                go_region_held (fun w' => Below wr.heap.size wr w' ∧ w'.cell? ⟨g, i, none⟩ = some (.pointer (some ⟨p, 0, none⟩)) ∧ w'.rangeAt (w.heap.size + 1) 0 (nms nm)) (first | exact keepA ((Below.refl _ _).drew) h3 (unhide HRG) | exact keepA (((Below.refl wr.heap.size wr).drew).trans hb2) h3 (unhide HRG)) (first | (go_at_call 111; refine (unhide HL p (j' + 2) _ ?_ ?_).mono ?_; exact hB3; exact (unhide HE).below ((Below.refl _ _).drew) hB3; rintro e w2 ⟨rfl, hb2⟩))
                have hK2 := hide (((unhide hK).below ((Below.refl wr.heap.size wr).drew)).below hb2)
                clear hu hin hnl hno hb2
                obtain ⟨c0, f0⟩ := (unhide hK2).at_ hi26
                go_wp2
                go_roundw
                case rel =>
                  have hfin : LI w (w2.setCell ⟨w.heap.size + 1, i, none⟩ (.int .i64 (low s nm (j' + 2)))) (w.heap.size + 1) w.heap.size (lowRow s (lowsF s r) (i + 1)) := by
                    rw [unhide HST]; exact (unhide hK2).set hi26 _ (by omega) (by omega)
                  exact ⟨i + 1, by go_num, by omega, hide hfin⟩
                case measure => simp [intOf]; omega
            · have hi26' : i = 26 := by omega
              subst hi26'
              go_wp2
              go_roundw
              case rel => exact ⟨r + 1, by go_num, by omega, hK⟩
              case measure => simp [intOf]; omega
        · have hr27 : r = 27 := by omega
          subst hr27
          have hin : Hid ((Tryz.prog.info? 61).map (·.size) = some (nms (lowsF s 27)).length) := hide (by rw [nms_len]; exact Tryz.infoArr)
          have hrth : Hid (World.there wr w.heap.size 0 (nms (lowsF s 27)).toArray.size) := hide (by simp only [List.size_toArray, nms_len]; exact (unhide hJ).rth)
          go_wp2_with (first | (refine wpList_load_mid rfl 61 _ rfl (w.heap.size + 1) 0 rfl (nms (lowsF s 27)) _ (unhide hJ).rng Tryz.underlying61 rfl (unhide hin) ?_) | (refine wpList_store_mid rfl 61 _ _ rfl w.heap.size 0 (nms (lowsF s 27)).toArray rfl rfl (unhide hrth) (by simpa using unhide hin) (all_oneCell_toArray (nms_one _)) ?_))
          refine bodyPost_ret (v := .agg (nms (lowsF s 27)).toArray) (results_cell_mid Tryz.results63 _ _ w.heap.size (nms (lowsF s 27)) _ rfl (World.rangeAt_setCells_same _ _ _ _ ?_) Tryz.underlying61 rfl (unhide hin)) rfl ⟨rfl, ?_⟩
          · simpa using unhide hrth
          · exact below_setRow _ (Nat.le_refl _) _ _ (unhide hJ).bel
end Go.Proofs.YtnfaiaoipeholaaGreat
