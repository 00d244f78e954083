/- PNewT PNewS PNewCh ParE PParse PParseT -/
import Derived.Test.YtnfaiaoipeholaaGreatDoorAa26
import Derived.Deep.OwnRows
import Derived.Laws.OwnMore
import Derived.Great.BuildSlice
import Derived.Deep.Upon
import Derived.Test.YtnfaiaoipeholaaGreatDoorAa25
import Derived.Test.YtnfaiaoipeholaaGreatDoorAa02
namespace Go.Proofs.YtnfaiaoipeholaaGreatDoor
open Go.RowKit
section
variable {s u : ByteArray}

theorem Tryz.infoIntP : (Tryz.prog.info? 3).map (fun i => (i.zero, i.size, i.bytes)) = some (some (.int .i64 0), 1, 8) := by kernel_rfl
theorem Tryz.infoTab : (Tryz.prog.info? 94).map (·.size) = some 2 := by kernel_rfl
/-- a table while it is made -/
structure NT (w wr : World) (N k : Nat) (v : Int) : Prop where
  row : wr.rowIs (w.heap.size + 1) 3 N (fun i => .int .i64 (if i < k then 2001 else 0))
  t0 : wr.cell? ⟨w.heap.size + 1 + 1, 0, none⟩ = some (.int .i64 v)
  t1 : wr.cell? ⟨w.heap.size + 1 + 1, 1, none⟩ = some (.slice (some ⟨w.heap.size + 1, 0, none⟩) N N)
  r0 : wr.cell? ⟨w.heap.size, 0, none⟩ = some (.int .i64 0)
  r1 : wr.cell? ⟨w.heap.size, 1, none⟩ = some (.slice none 0 0)
  f0 : wr.frozen? ⟨w.heap.size, 0, none⟩ = false
  f1 : wr.frozen? ⟨w.heap.size, 1, none⟩ = false
  bel : Below w.heap.size w wr
theorem NT.step {w wr : World} {N k : Nat} {v : Int} (h : NT w wr N k v) : NT w (wr.setCell ⟨w.heap.size + 1, k, none⟩ (.int .i64 2001)) N (k + 1) v := by
  refine ⟨?_, ?_, ?_, ?_, ?_, by rw [World.frozen?_setCell]; exact h.f0, by rw [World.frozen?_setCell]; exact h.f1, h.bel.setCell (p := ⟨w.heap.size + 1, k, none⟩) (Nat.le_succ _) _⟩
  · have := h.row.set k (.int .i64 2001)
    refine this.congr (fun i _ => ?_)
    by_cases e : i = k
    · subst e; simp
    · simp only [e, if_false]
      by_cases e2 : i < k
      · rw [if_pos e2, if_pos (by omega)]
      · rw [if_neg e2, if_neg (by omega)]
  · rw [World.cell?_setCell_other wr _ _ _ (fun e => by injection e with e _; omega)]; exact h.t0
  · rw [World.cell?_setCell_other wr _ _ _ (fun e => by injection e with e _; omega)]; exact h.t1
  · rw [World.cell?_setCell_other wr _ _ _ (fun e => by injection e with e _; omega)]; exact h.r0
  · rw [World.cell?_setCell_other wr _ _ _ (fun e => by injection e with e _; omega)]; exact h.r1
/-- what is left of it -/
structure NTo (w w' : World) (N : Nat) : Prop where
  row : w'.rowIs (w.heap.size + 1) 3 N (fun _ => .int .i64 2001)
  bel : Below w.heap.size w w'
theorem NT.done {w wr : World} {N : Nat} {v v1 : Int} {v2 : Value} (h : NT w wr N N v) : NTo w ((wr.setCell ⟨w.heap.size, 0, none⟩ (.int .i64 v1)).setCell ⟨w.heap.size, 1, none⟩ v2) N := by
  refine ⟨?_, (h.bel.setCell (p := ⟨w.heap.size, 0, none⟩) (Nat.le_refl _) _).setCell (p := ⟨w.heap.size, 1, none⟩) (Nat.le_refl _) _⟩
  exact ((h.row.congr (fun i hi => by rw [if_pos hi])).setOther (a := ⟨w.heap.size, 0, none⟩) (Nat.succ_ne_self _) _).setOther (a := ⟨w.heap.size, 1, none⟩) (Nat.succ_ne_self _) _
theorem NT.start (w : World) (N : Nat) (v : Int) : NT w (((w.alloc (.cells #[.int .i64 0, .slice none 0 0] 94)).alloc (.cells (madeCells #[.int .i64 0] N) 3)).alloc (.cells #[.int .i64 v, .slice (some ⟨w.heap.size + 1, 0, none⟩) N N] 94)) N 0 v := by
  have b1 : Below w.heap.size w (w.alloc (.cells #[.int .i64 0, .slice none 0 0] 94)) := (Below.refl _ _).alloc (Nat.le_refl _) _
  have c0 : (w.alloc (.cells #[.int .i64 0, .slice none 0 0] 94)).cell? ⟨w.heap.size, 0, none⟩ = some (.int .i64 0) := by rw [World.cell?_alloc_new]; rfl
  have c1 : (w.alloc (.cells #[.int .i64 0, .slice none 0 0] 94)).cell? ⟨w.heap.size, 1, none⟩ = some (.slice none 0 0) := by rw [World.cell?_alloc_new]; rfl
  have f0 := World.frozen?_alloc_new w #[.int .i64 0, .slice none 0 0] 94 0
  have f1 := World.frozen?_alloc_new w #[.int .i64 0, .slice none 0 0] 94 1
  generalize hw1 : w.alloc (.cells #[.int .i64 0, .slice none 0 0] 94) = w1 at *
  have hz1 : w1.heap.size = w.heap.size + 1 := by rw [← hw1]; simp
  have b2 : Below w1.heap.size w1 (w1.alloc (.cells (madeCells #[.int .i64 0] N) 3)) := (Below.refl _ _).alloc (Nat.le_refl _) _
  have r2 := World.rowIs_made w1 (.int .i64 0) N 3
  generalize hw2 : w1.alloc (.cells (madeCells #[.int .i64 0] N) 3) = w2 at *
  have hz2 : w2.heap.size = w.heap.size + 1 + 1 := by rw [← hw2]; simp [hz1]
  have b3 : Below w2.heap.size w2 (w2.alloc (.cells #[.int .i64 v, .slice (some ⟨w.heap.size + 1, 0, none⟩) N N] 94)) := (Below.refl _ _).alloc (Nat.le_refl _) _
  have d0 : (w2.alloc (.cells #[.int .i64 v, .slice (some ⟨w.heap.size + 1, 0, none⟩) N N] 94)).cell? ⟨w2.heap.size, 0, none⟩ = some (.int .i64 v) := by rw [World.cell?_alloc_new]; rfl
  have d1 : (w2.alloc (.cells #[.int .i64 v, .slice (some ⟨w.heap.size + 1, 0, none⟩) N N] 94)).cell? ⟨w2.heap.size, 1, none⟩ = some (.slice (some ⟨w.heap.size + 1, 0, none⟩) N N) := by rw [World.cell?_alloc_new]; rfl
  have r3 := r2.alloc (.cells #[.int .i64 v, .slice (some ⟨w.heap.size + 1, 0, none⟩) N N] 94)
  rw [hz2] at d0 d1
  rw [hz1] at r3
  have b12 : Below w.heap.size w w2 := b1.trans (b2.mono (by omega))
  have k0 : ∀ o, (w2.alloc (.cells #[.int .i64 v, .slice (some ⟨w.heap.size + 1, 0, none⟩) N N] 94)).cell? ⟨w.heap.size, o, none⟩ = w1.cell? ⟨w.heap.size, o, none⟩ := fun o => (b3.cell (p := ⟨w.heap.size, o, none⟩) (by show w.heap.size < _; omega)).trans (b2.cell (p := ⟨w.heap.size, o, none⟩) (by show w.heap.size < _; omega))
  have k1 : ∀ o, (w2.alloc (.cells #[.int .i64 v, .slice (some ⟨w.heap.size + 1, 0, none⟩) N N] 94)).frozen? ⟨w.heap.size, o, none⟩ = w1.frozen? ⟨w.heap.size, o, none⟩ := fun o => (b3.frozen (p := ⟨w.heap.size, o, none⟩) (by show w.heap.size < _; omega)).trans (b2.frozen (p := ⟨w.heap.size, o, none⟩) (by show w.heap.size < _; omega))
  exact ⟨r3.congr (fun i _ => by rw [if_neg (by omega)]), d0, d1, (k0 0).trans c0, (k0 1).trans c1, (k1 0).trans f0, (k1 1).trans f1, b12.trans (b3.mono (by omega))⟩
set_option maxHeartbeats 1000000 in
set_option maxRecDepth 1000000 in
theorem newTable_any (w : World) (hs : s.size ≤ 300) (hu : u.size ≤ 20) :
    Calls Tryz.prog 104 #[.string s, .string u] w fun e w' => e = .returned (.agg #[.int .i64 ((u.size : Int) + 1), .slice (some ⟨w.heap.size + 1, 0, none⟩) (s.size * (u.size + 1) * (u.size + 1)) (s.size * (u.size + 1) * (u.size + 1))]) ∧ NTo w w' (s.size * (u.size + 1) * (u.size + 1)) := by
  have hN : s.size * (u.size + 1) * (u.size + 1) ≤ 150000 := by
    have h1 : s.size * (u.size + 1) ≤ 300 * 21 := Nat.mul_le_mul hs (by omega)
    have h2 : s.size * (u.size + 1) * (u.size + 1) ≤ 6300 * 21 := Nat.mul_le_mul h1 (by omega)
    omega
  have hN1 : s.size * (u.size + 1) ≤ 6300 := by have := Nat.mul_le_mul hs (show u.size + 1 ≤ 21 by omega); omega
  have e1 : (s.size : Int) * ((u.size : Int) + 1) = ((s.size * (u.size + 1) : Nat) : Int) := by simp
  have e2 : (s.size : Int) * ((u.size : Int) + 1) * ((u.size : Int) + 1) = ((s.size * (u.size + 1) * (u.size + 1) : Nat) : Int) := by simp
  generalize hNN : s.size * (u.size + 1) * (u.size + 1) = N at *
  generalize s.size * (u.size + 1) = M at *
  have c1 : (s.size : Int) * ((u.size : Int) + 1) ≤ 6300 := by omega
  have c2 : (s.size : Int) * ((u.size : Int) + 1) * ((u.size : Int) + 1) ≤ 150000 := by omega
  have c3 : 0 ≤ (s.size : Int) * ((u.size : Int) + 1) := by omega
  have c4 : 0 ≤ (s.size : Int) * ((u.size : Int) + 1) * ((u.size : Int) + 1) := by omega
  have hmk : ∀ w : World, (Instr.makeSlice 92 (.int .i64 ((s.size : Int) * ((u.size : Int) + 1) * ((u.size : Int) + 1))) (.int .i64 ((s.size : Int) * ((u.size : Int) + 1) * ((u.size : Int) + 1)))).run Tryz.prog w = .ok (.slice (some ⟨w.heap.size, 0, none⟩) N N) (w.alloc (.cells (madeCells #[.int .i64 0] N) 3)) := by
    rw [e2]
    exact run_make_row' (P := Tryz.prog) 92 3 (.int .i64 0) 8 Tryz.underlying92 Tryz.infoIntP rfl .i64 .i64 N (by omega) (by omega)
  clear e1 e2 hNN
  go_enter Tryz.func104, Tryz.ntmps104
  go_wp2_with fail
  have HS := hide (NT.start w N ((u.size : Int) + 1))
  generalize hw1 : World.alloc _ _ = w1 at *
  clear hw1 hmk
  go_loopw [7] (fun iv wr => ∃ k : Nat, iv = .int .i64 k ∧ k ≤ N ∧ Hid (NT w wr N k ((u.size : Int) + 1))) (fun iv _ => N - (intOf iv).toNat)
  case atStart => exact ⟨0, rfl, Nat.zero_le _, HS⟩
  case round =>
    obtain ⟨k, rfl, hk, hI⟩ := hrel
    have t0 := (unhide hI).t0
    have t1 := (unhide hI).t1
    have r0 := (unhide hI).r0
    have r1 := (unhide hI).r1
    have f0 := (unhide hI).f0
    have f1 := (unhide hI).f1
    by_cases hlt : k < N
    · have q1 := (unhide hI).row.cell hlt
      have q2 := (unhide hI).row.frozen k
      go_wp2
      go_roundw
      case rel => exact ⟨k + 1, by go_num, by omega, hide (unhide hI).step⟩
      case measure => simp [intOf]; omega
    · have hkN : k = N := by omega
      subst hkN
      have HD := hide (fun v1 v2 => (unhide hI).done (v1 := v1) (v2 := v2))
      clear hI
      go_wp2
      refine bodyPost_ret (v := .agg #[.int .i64 ((u.size : Int) + 1), .slice (some ⟨w.heap.size + 1, 0, none⟩) k k]) (results_cell_mid Tryz.results104 _ _ w.heap.size [.int .i64 ((u.size : Int) + 1), .slice (some ⟨w.heap.size + 1, 0, none⟩) k k] _ rfl ?_ Tryz.underlying94 rfl Tryz.infoTab) rfl ⟨rfl, unhide HD _ _⟩
      intro j v hv
      match j, hv with
      | 0, hv => simp only [List.getElem?_cons_zero, Option.some.injEq] at hv; subst hv; rw [World.cell?_setCell_other _ _ _ _ (fun e => by injection e with _ e; omega)]; exact World.cell?_setCell_same wr _ _ r0
      | 1, hv => simp only [List.getElem?_cons_succ, List.getElem?_cons_zero, Option.some.injEq] at hv; subst hv; exact World.cell?_setCell_same _ _ _ ((World.cell?_setCell_other wr _ _ _ (fun e => by injection e with _ e; omega)).trans r1)
      | j + 2, hv => simp at hv
end
end Go.Proofs.YtnfaiaoipeholaaGreatDoor

namespace Go.Proofs.YtnfaiaoipeholaaGreatDoor
open Go.RowKit
/-- a cell of a spot -/
def spc (s : ByteArray) (p : Nat) : Nat → Value
  | 0 => .int .i64 (wi s p : Nat)
  | 1 => .int .i64 (bh s p : Nat)
  | 2 => .int .i64 (pl (nx s p))
  | _ => .bool (begs s p)
def zpc : Nat → Value
  | 0 => .int .i64 0
  | 1 => .int .i64 0
  | 2 => .int .i64 0
  | _ => .bool false
theorem Tryz.infoSpot4 : (Tryz.prog.info? 137).map (fun i => (i.zero, i.size, i.bytes)) = some (some (.agg #[.int .i64 0, .int .i64 0, .int .i64 0, .bool false]), 4, 32) := by kernel_rfl
/-- the spots while they are made -/
structure NS (s : ByteArray) (w wr : World) (k : Nat) : Prop where
  row : wr.rowIs w.heap.size 137 (s.size * 4) (fun i => if i / 4 < k then spc s (i / 4) (i % 4) else zpc (i % 4))
  bel : Below w.heap.size w wr
theorem NS.start (s : ByteArray) (w : World) : NS s w (w.alloc (.cells (madeCells #[.int .i64 0, .int .i64 0, .int .i64 0, .bool false] (s.size * 4)) 137)) 0 := by
  refine ⟨?_, (Below.refl _ _).alloc (Nat.le_refl _) _⟩
  have hsz := size_madeCells #[Value.int .i64 0, .int .i64 0, .int .i64 0, .bool false] (s.size * 4)
  have := World.rowIs_alloc w (madeCells #[.int .i64 0, .int .i64 0, .int .i64 0, .bool false] (s.size * 4)) 137 (fun i => if i / 4 < 0 then spc s (i / 4) (i % 4) else zpc (i % 4)) ?_
  · rw [hsz] at this; exact this
  intro i hi
  rw [hsz] at hi
  rw [if_neg (by omega)]
  have h4 : i % 4 < 4 := Nat.mod_lt _ (by omega)
  simp only [madeCells, Array.getElem?_map, Array.getElem?_range, hi, if_true, Option.map_some]
  show some (#[Value.int .i64 0, .int .i64 0, .int .i64 0, .bool false][i % 4]!) = some (zpc (i % 4))
  generalize i % 4 = j at *
  match j, h4 with
  | 0, _ => rfl
  | 1, _ => rfl
  | 2, _ => rfl
  | 3, _ => rfl
theorem NS.old {s : ByteArray} {w wr w' : World} {k : Nat} (h : NS s w wr k) (hb : Below wr.heap.size wr w') : NS s w w' k :=
  ⟨h.row.of_block (hb.block _ h.row.lt), h.bel.trans (hb.mono h.bel.size)⟩
theorem NS.step {s : ByteArray} {w wr : World} {k : Nat} (h : NS s w wr k) : NS s w ((((wr.setCell ⟨w.heap.size, k * 4, none⟩ (.int .i64 (wi s k : Nat))).setCell ⟨w.heap.size, k * 4 + 1, none⟩ (.int .i64 (bh s k : Nat))).setCell ⟨w.heap.size, k * 4 + 2, none⟩ (.int .i64 (pl (nx s k)))).setCell ⟨w.heap.size, k * 4 + 3, none⟩ (.bool (begs s k))) (k + 1) := by
  refine ⟨((((h.row.set (k * 4) _).set (k * 4 + 1) _).set (k * 4 + 2) _).set (k * 4 + 3) _).congr (fun i hi => ?_), (((h.bel.setCell (p := ⟨w.heap.size, k * 4, none⟩) (Nat.le_refl _) _).setCell (p := ⟨w.heap.size, k * 4 + 1, none⟩) (Nat.le_refl _) _).setCell (p := ⟨w.heap.size, k * 4 + 2, none⟩) (Nat.le_refl _) _).setCell (p := ⟨w.heap.size, k * 4 + 3, none⟩) (Nat.le_refl _) _⟩
  by_cases e3 : i = k * 4 + 3
  · subst e3
    rw [if_pos rfl, if_pos (by omega), show (k * 4 + 3) / 4 = k by omega, show (k * 4 + 3) % 4 = 3 by omega]; rfl
  rw [if_neg e3]
  by_cases e2 : i = k * 4 + 2
  · subst e2
    rw [if_pos rfl, if_pos (by omega), show (k * 4 + 2) / 4 = k by omega, show (k * 4 + 2) % 4 = 2 by omega]; rfl
  rw [if_neg e2]
  by_cases e1 : i = k * 4 + 1
  · subst e1
    rw [if_pos rfl, if_pos (by omega), show (k * 4 + 1) / 4 = k by omega, show (k * 4 + 1) % 4 = 1 by omega]; rfl
  rw [if_neg e1]
  by_cases e0 : i = k * 4
  · subst e0
    rw [if_pos rfl, if_pos (by omega), show (k * 4) / 4 = k by omega, show (k * 4) % 4 = 0 by omega]; rfl
  rw [if_neg e0]
  by_cases e : i / 4 < k
  · rw [if_pos e, if_pos (by omega)]
  · rw [if_neg e, if_neg (by omega)]
section
variable {s u : ByteArray}
set_option maxHeartbeats 1000000 in
set_option maxRecDepth 1000000 in
theorem newSpots_any (g : Gram s) (w : World) : Calls Tryz.prog 103 #[.string s] w fun e w' => e = .returned (.slice (some ⟨w.heap.size, 0, none⟩) s.size s.size) ∧ NS s w w' s.size := by
  have hs := g.small
  have hmk : ∀ w : World, (Instr.makeSlice 91 (.int .i64 (s.size : Int)) (.int .i64 (s.size : Int))).run Tryz.prog w = .ok (.slice (some ⟨w.heap.size, 0, none⟩) s.size s.size) (w.alloc (.cells (madeCells #[.int .i64 0, .int .i64 0, .int .i64 0, .bool false] (s.size * 4)) 137)) := by
    intro w
    obtain ⟨i, hi, hzz⟩ := Option.map_eq_some_iff.1 Tryz.infoSpot4
    simp only [Prod.mk.injEq] at hzz
    obtain ⟨hz, hsz, hb⟩ := hzz
    have hr := run_make (P := Tryz.prog) w 91 137 i _ Tryz.underlying91 hi hz .i64 .i64 s.size s.size (by omega) (Int.le_refl _) (by rw [hb]; omega) (by omega)
    simp only [Int.toNat_natCast, hsz] at hr
    exact hr
  have HS := hide (NS.start s w)
  go_enter Tryz.func103, Tryz.ntmps103
  go_wp2
  generalize hw1 : World.alloc _ _ = w1 at *
  clear hw1 hmk
  go_loopw [4] (fun iv wr => ∃ k : Nat, iv = .int .i64 k ∧ k ≤ s.size ∧ Hid (NS s w wr k)) (fun iv _ => s.size - (intOf iv).toNat)
  case atStart => exact ⟨0, rfl, Nat.zero_le _, HS⟩
  case round =>
    obtain ⟨k, rfl, hk, hI⟩ := hrel
    by_cases hlt : k < s.size
    · go_wp2_with fail
      refine (newSpot_any g _ k k hlt rfl).mono ?_
      rintro e1' w2 ⟨rfl, hb2⟩
      have hI2 := hide ((unhide hI).old hb2)
      clear hb2 hI
      have q0 := (unhide hI2).row.cell (i := k * 4) (by omega)
      have q1 := (unhide hI2).row.cell (i := k * 4 + 1) (by omega)
      have q2 := (unhide hI2).row.cell (i := k * 4 + 2) (by omega)
      have q3 := (unhide hI2).row.cell (i := k * 4 + 3) (by omega)
      have f0 := (unhide hI2).row.frozen (k * 4)
      have f1 := (unhide hI2).row.frozen (k * 4 + 1)
      have f2 := (unhide hI2).row.frozen (k * 4 + 2)
      have f3 := (unhide hI2).row.frozen (k * 4 + 3)
      rw [if_neg (by omega)] at q0 q1 q2 q3
      generalize zpc (k * 4 % 4) = z0 at *
      generalize zpc ((k * 4 + 1) % 4) = z1 at *
      generalize zpc ((k * 4 + 2) % 4) = z2 at *
      generalize zpc ((k * 4 + 3) % 4) = z3 at *
      have hI3 := hide (unhide hI2).step
      unfold spV
      generalize ((wi s k : Nat) : Int) = v0 at *
      generalize ((bh s k : Nat) : Int) = v1 at *
      generalize pl (nx s k) = v2 at *
      generalize begs s k = v3 at *
      go_wp2
      go_roundw
      case rel => exact ⟨k + 1, by go_num, by omega, hI3⟩
      case measure => simp [intOf]; omega
    · have hkN : k = s.size := by omega
      subst hkN
      go_wp2
      go_ret
      exact ⟨rfl, unhide hI⟩
end
end Go.Proofs.YtnfaiaoipeholaaGreatDoor

namespace Go.Proofs.YtnfaiaoipeholaaGreatDoor
open Go.RowKit
theorem thr_alloc (w : World) (C : Array Value) (t : TypeId) (n : Nat) (h : n ≤ C.size) : (w.alloc (.cells C t)).there w.heap.size 0 n := fun j hj => by
  refine ⟨?_, World.frozen?_alloc_new w C t (0 + j)⟩
  rw [Nat.zero_add, World.cell?_alloc_new]
  simp; omega
theorem thr_below {w w1 : World} {b n B : Nat} (h : w.there b 0 n) (hb : Below B w w1) (hlt : b < B) : w1.there b 0 n := fun j hj => by
  obtain ⟨h1, h2⟩ := h j hj
  exact ⟨by rw [hb.cell (p := ⟨b, 0 + j, none⟩) hlt]; exact h1, (hb.frozen (p := ⟨b, 0 + j, none⟩) hlt).trans h2⟩
section
variable {s u : ByteArray}
/-- a chart as a value -/
def chV (s u : ByteArray) (q r x y : Nat) : List Value :=
  [.string s, .string u, .slice (some ⟨q, 0, none⟩) s.size s.size, .int .i64 ((u.size : Int) + 1), .slice (some ⟨r, 0, none⟩) (s.size * (u.size + 1) * (u.size + 1)) (s.size * (u.size + 1) * (u.size + 1)),
    .int .i64 ((u.size : Int) + 1), .slice (some ⟨x, 0, none⟩) (s.size * (u.size + 1) * (u.size + 1)) (s.size * (u.size + 1) * (u.size + 1)),
    .int .i64 ((u.size : Int) + 1), .slice (some ⟨y, 0, none⟩) (s.size * (u.size + 1) * (u.size + 1)) (s.size * (u.size + 1) * (u.size + 1))]
theorem Tryz.infoChart : (Tryz.prog.info? 96).map (·.size) = some 9 := by kernel_rfl
theorem chV_one (s u : ByteArray) (q r x y : Nat) : ∀ v ∈ chV s u q r x y, v.oneCell' = true := by
  intro v hv
  simp only [chV, List.mem_cons, List.not_mem_nil, or_false] at hv
  rcases hv with rfl | rfl | rfl | rfl | rfl | rfl | rfl | rfl | rfl <;> rfl
theorem Tryz.builtChart (s u : ByteArray) (k : Int) (n N q r x y : Nat) : Tryz.prog.built 96 [(0, .string s), (1, .string u), (2, .slice (some ⟨q, 0, none⟩) n n), (3, .agg #[.int .i64 k, .slice (some ⟨r, 0, none⟩) N N]), (4, .agg #[.int .i64 k, .slice (some ⟨x, 0, none⟩) N N]), (5, .agg #[.int .i64 k, .slice (some ⟨y, 0, none⟩) N N])] =
    some #[.string s, .string u, .slice (some ⟨q, 0, none⟩) n n, .int .i64 k, .slice (some ⟨r, 0, none⟩) N N, .int .i64 k, .slice (some ⟨x, 0, none⟩) N N, .int .i64 k, .slice (some ⟨y, 0, none⟩) N N] := by kernel_rfl
/-- what lies beside a new chart -/
structure NC (s u : ByteArray) (w w' : World) (q r x y : Nat) : Prop where
  sp : w'.rowIs q 137 (s.size * 4) (fun i => if i / 4 < s.size then spc s (i / 4) (i % 4) else zpc (i % 4))
  tr : w'.rowIs r 3 (s.size * (u.size + 1) * (u.size + 1)) (fun _ => .int .i64 2001)
  tx : w'.rowIs x 3 (s.size * (u.size + 1) * (u.size + 1)) (fun _ => .int .i64 2001)
  ty : w'.rowIs y 3 (s.size * (u.size + 1) * (u.size + 1)) (fun _ => .int .i64 2001)
  lt : w.heap.size ≤ q ∧ q < r ∧ r < x ∧ x < y
  bel : Below w.heap.size w w'
/-- the new chart's value -/
structure CV (s u : ByteArray) (w w5 : World) (q r x y : Nat) (MV : Array Value) : Prop where
  val : MV = (chV s u q r x y).toArray
  thr : w5.there w.heap.size 0 MV.size
  nc : NC s u w (w5.setCells w.heap.size 0 MV.toList) q r x y
  one : MV.all (·.oneCell') = true
  inf : (Tryz.prog.info? 96).map (·.size) = some MV.size
  inf2 : (Tryz.prog.info? 96).map (·.size) = some MV.toList.length
  blt : Tryz.prog.built 96 [(0, .string s), (1, .string u), (2, .slice (some ⟨q, 0, none⟩) s.size s.size), (3, .agg #[.int .i64 ((u.size : Int) + 1), .slice (some ⟨r, 0, none⟩) (s.size * (u.size + 1) * (u.size + 1)) (s.size * (u.size + 1) * (u.size + 1))]), (4, .agg #[.int .i64 ((u.size : Int) + 1), .slice (some ⟨x, 0, none⟩) (s.size * (u.size + 1) * (u.size + 1)) (s.size * (u.size + 1) * (u.size + 1))]), (5, .agg #[.int .i64 ((u.size : Int) + 1), .slice (some ⟨y, 0, none⟩) (s.size * (u.size + 1) * (u.size + 1)) (s.size * (u.size + 1) * (u.size + 1))])] = some MV
theorem chart_facts {w w1 w2 w3 w4 w5 : World} {N : Nat} (hN : N = s.size * (u.size + 1) * (u.size + 1)) (hz1 : w1.heap.size = w.heap.size + 1) (b1 : Below w.heap.size w w1) (t1 : w1.there w.heap.size 0 9) (hb2 : NS s w1 w2 s.size) (hb3 : NTo w2 w3 N) (hb4 : NTo w3 w4 N) (hb5 : NTo w4 w5 N) :
    ∃ MV, CV s u w w5 w1.heap.size (w2.heap.size + 1) (w3.heap.size + 1) (w4.heap.size + 1) MV := by
  subst hN
  have z2 := hb2.bel.size
  have z3 := hb3.bel.size
  have z4 := hb4.bel.size
  have z5 := hb5.bel.size
  have l2 := hb2.row.lt
  have l3 := hb3.row.lt
  have l4 := hb4.row.lt
  have l5 := hb5.row.lt
  have hth : w5.there w.heap.size 0 9 := thr_below (thr_below (thr_below (thr_below t1 hb2.bel (by omega)) hb3.bel (by omega)) hb4.bel (by omega)) hb5.bel (by omega)
  have hblt := Tryz.builtChart s u ((u.size : Int) + 1) s.size (s.size * (u.size + 1) * (u.size + 1)) w1.heap.size (w2.heap.size + 1) (w3.heap.size + 1) (w4.heap.size + 1)
  refine ⟨(chV s u w1.heap.size (w2.heap.size + 1) (w3.heap.size + 1) (w4.heap.size + 1)).toArray, rfl, hth, ?_, all_oneCell_toArray (chV_one _ _ _ _ _ _), Tryz.infoChart, Tryz.infoChart, hblt⟩
  generalize (chV s u w1.heap.size (w2.heap.size + 1) (w3.heap.size + 1) (w4.heap.size + 1)).toArray.toList = L
  have hs2 : Below w.heap.size w5 (w5.setCells w.heap.size 0 L) := below_setRow _ (Nat.le_refl _) _ _ (Below.refl _ _)
  have hk : ∀ b', w.heap.size < b' → b' < w5.heap.size → (w5.setCells w.heap.size 0 L).heap[b']? = w5.heap[b']? := fun b' h1 h2 => World.heap_setCells_other w5 _ _ _ h2 (by omega)
  refine ⟨?_, ?_, ?_, hb5.row.of_block (hk _ (by omega) (by omega)), ⟨by omega, by omega, by omega, by omega⟩, ?_⟩
  · exact (((hb2.row.of_block (hb3.bel.block _ (by omega))).of_block (hb4.bel.block _ (by omega))).of_block (hb5.bel.block _ (by omega))).of_block (hk _ (by omega) (by omega))
  · exact ((hb3.row.of_block (hb4.bel.block _ (by omega))).of_block (hb5.bel.block _ (by omega))).of_block (hk _ (by omega) (by omega))
  · exact (hb4.row.of_block (hb5.bel.block _ (by omega))).of_block (hk _ (by omega) (by omega))
  · exact ((((b1.trans (hb2.bel.mono (by omega))).trans (hb3.bel.mono (by omega))).trans (hb4.bel.mono (by omega))).trans (hb5.bel.mono (by omega))).trans hs2
set_option maxHeartbeats 1000000 in
set_option maxRecDepth 1000000 in
theorem newChart_any (g : Gram s) (hu : u.size ≤ 20) (w : World) : Calls Tryz.prog 58 #[.string s, .string u] w fun e w' => ∃ q r x y, e = .returned (.agg (chV s u q r x y).toArray) ∧ NC s u w w' q r x y := by
  have hs := g.small
  generalize hPost : (fun (e : Ending) (w' : World) => ∃ q r x y, e = .returned (.agg (chV s u q r x y).toArray) ∧ NC s u w w' q r x y) = Post
  have HP := hide hPost
  clear hPost
  have b0 : Below w.heap.size w (w.alloc (.cells #[.string ⟨#[]⟩, .string ⟨#[]⟩, .slice none 0 0, .int .i64 0, .slice none 0 0, .int .i64 0, .slice none 0 0, .int .i64 0, .slice none 0 0] 96)) := (Below.refl _ _).alloc (Nat.le_refl _) _
  have t0 := thr_alloc w #[.string ⟨#[]⟩, .string ⟨#[]⟩, .slice none 0 0, .int .i64 0, .slice none 0 0, .int .i64 0, .slice none 0 0, .int .i64 0, .slice none 0 0] 96 9 (by decide)
  have z0 : (w.alloc (.cells #[.string ⟨#[]⟩, .string ⟨#[]⟩, .slice none 0 0, .int .i64 0, .slice none 0 0, .int .i64 0, .slice none 0 0, .int .i64 0, .slice none 0 0] 96)).heap.size = w.heap.size + 1 := by simp
  have B0 := hide b0
  have T0 := hide t0
  have Z0 := hide z0
  clear b0 t0 z0
  go_enter Tryz.func58, Tryz.ntmps58
  go_wp2_with fail
  generalize hw1 : World.alloc _ _ = w1 at *
  clear hw1
  refine (newSpots_any g _).mono ?_
  rintro e w2 ⟨rfl, hb2⟩
  go_wp2_with fail
  refine (newTable_any _ hs hu).mono ?_
  rintro e w3 ⟨rfl, hb3⟩
  go_wp2_with fail
  refine (newTable_any _ hs hu).mono ?_
  rintro e w4 ⟨rfl, hb4⟩
  go_wp2_with fail
  refine (newTable_any _ hs hu).mono ?_
  rintro e w5 ⟨rfl, hb5⟩
  obtain ⟨MV, cv⟩ := chart_facts rfl (unhide Z0) (unhide B0) (unhide T0) hb2 hb3 hb4 hb5
  have HPO : Hid (∀ w', NC s u w w' w1.heap.size (w2.heap.size + 1) (w3.heap.size + 1) (w4.heap.size + 1) → Post (.returned (.agg MV)) w') := hide (fun w' hn => by rw [← unhide HP]; exact ⟨_, _, _, _, by rw [cv.val], hn⟩)
  have HCV := hide cv
  have HBU := hide cv.blt
  have HTH := hide cv.thr
  have HIN := hide cv.inf
  have HON := hide cv.one
  clear cv HP B0 T0 Z0 hb2 hb3 hb4 hb5
  generalize s.size * (u.size + 1) * (u.size + 1) = N at *
  generalize Value.slice (some { block := w1.heap.size, off := 0 }) s.size s.size = A2 at *
  generalize Value.agg #[Value.int IntKind.i64 ((u.size : Int) + 1), Value.slice (some { block := w2.heap.size + 1, off := 0 }) N N] = A3 at *
  generalize Value.agg #[Value.int IntKind.i64 ((u.size : Int) + 1), Value.slice (some { block := w3.heap.size + 1, off := 0 }) N N] = A4 at *
  generalize Value.agg #[Value.int IntKind.i64 ((u.size : Int) + 1), Value.slice (some { block := w4.heap.size + 1, off := 0 }) N N] = A5 at *
  go_wp2_with (first
    | (refine wpList_buildTo rfl 96 _ rfl _ rfl MV (by rw [Array.toList_map]; exact unhide HBU) ?_)
    | (refine wpList_store_mid rfl 96 _ _ rfl w.heap.size 0 MV rfl rfl (unhide HTH) (unhide HIN) (unhide HON) ?_))
  refine bodyPost_ret (v := .agg MV) (results_cell_mid Tryz.results58 _ _ w.heap.size MV.toList _ rfl (World.rangeAt_setCells_same _ _ _ _ (by rw [Array.length_toList]; exact unhide HTH)) Tryz.underlying96 rfl (unhide HCV).inf2) rfl ?_
  exact unhide HPO _ (unhide HCV).nc
end
end Go.Proofs.YtnfaiaoipeholaaGreatDoor

namespace Go.Proofs.YtnfaiaoipeholaaGreatDoor
/-- letters alone -/
def ltF (u : ByteArray) : Nat → Nat → Bool
  | 0, _ => true
  | n + 1, i => cL (bt u i) && ltF u n (i + 1)
/-- a word -/
def isW (u : ByteArray) : Bool := decide (¬ 20 < u.size) && ltF u u.size 0
/-- a way to name the chart where there is one -/
structure Chr where
  tb : ByteArray → ByteArray → Tb × Tb × Tb
  is : ∀ (s u : ByteArray) (R X W : Tb), Fix s u R X W → tb s u = (R, X, W)
theorem chr_some : Nonempty Chr := by
  classical exact ⟨⟨fun s u => if h : ∃ t : Tb × Tb × Tb, Fix s u t.1 t.2.1 t.2.2 then h.choose else (fun _ _ _ => 0, fun _ _ _ => 0, fun _ _ _ => 0), fun s u R X W fx => by
    have h : ∃ t : Tb × Tb × Tb, Fix s u t.1 t.2.1 t.2.2 := ⟨(R, X, W), fx⟩
    rw [dif_pos h]
    obtain ⟨h1, h2, h3⟩ := fix_one h.choose_spec fx
    exact Prod.ext h1 (Prod.ext h2 h3)⟩⟩
/-- the chart -/
def tabs [Inhabited Chr] (s u : ByteArray) : Tb × Tb × Tb := (default : Chr).tb s u
theorem tabs_eq [Inhabited Chr] {s u : ByteArray} {R X W : Tb} (fx : Fix s u R X W) : tabs s u = (R, X, W) := (default : Chr).is s u R X W fx
/-- there is a chart -/
def HasFix (s u : ByteArray) : Prop := ∃ R X W, Fix s u R X W
/-- a tree of a word -/
def prsR [Inhabited Chr] (s u : ByteArray) : ByteArray × Int :=
  if isW u = false then (⟨#[]⟩, 12)
  else if 2000 < fcC s u (tabs s u).2.1 (tabs s u).2.2 0 0 u.size then (⟨#[]⟩, 13)
  else (strOfNums (wrS s u (tabs s u).1 (tabs s u).2.1 (tabs s u).2.2), 0)
/-- P8 -/
def prs [Inhabited Chr] (s u : ByteArray) : ByteArray × Int := if (chk s).1 ≠ 0 then (⟨#[]⟩, (chk s).1) else prsR s u
end Go.Proofs.YtnfaiaoipeholaaGreatDoor

namespace Go.Proofs.YtnfaiaoipeholaaGreatDoor
open Go.RowKit
section
variable {s u : ByteArray}
set_option maxHeartbeats 400000 in
theorem isWord_any (u : ByteArray) (w : World) (hu : u.size ≤ maxLen) : Calls Tryz.prog 57 #[.string u] w fun e w' => e = .returned (.bool (isW u)) ∧ w' = w := by
  have hu' := hu
  unfold maxLen at hu'
  by_cases h : 20 < u.size
  · have e : isW u = false := by simp [isW, h]
    rw [e]; clear e
    go_enter Tryz.func57, Tryz.ntmps57
    go_wp2
    go_ret; exact ⟨rfl, rfl⟩
  · have e : isW u = ltF u u.size 0 := by simp [isW, h]
    rw [e]; clear e
    generalize hR : ltF u u.size 0 = R
    have HR := hide hR; clear hR
    go_enter Tryz.func57, Tryz.ntmps57
    go_wp2
    go_loop [3] (fun i => ∃ (k : Nat), k ≤ u.size ∧ i = .int .i64 k ∧ Hid (R = ltF u (u.size - k) k)) (fun i => u.size - (intOf i).toNat)
    case atStart => exact ⟨0, Nat.zero_le _, rfl, hide (unhide HR).symm⟩
    case round =>
      obtain ⟨k, hk, rfl, hr⟩ := hrel
      by_cases hlt : k < u.size
      · have hb := bt_at u k hlt
        have hst : Hid (R = (cL (bt u k) && ltF u (u.size - (k + 1)) (k + 1))) := hide (by rw [unhide hr, show u.size - k = u.size - (k + 1) + 1 by omega]; rfl)
        cases hd : cL (bt u k)
        · have HF : Hid (R = false) := hide (by rw [unhide hst, hd]; rfl)
          rw [hb] at hd
          have HD := hide hd
          clear hr hst hd
          go_wp2_with (go_at_call 102; refine (isLetter_any _ _).mono ?_; rw [unhide HD]; rintro e w' ⟨rfl, rfl⟩)
          go_ret
          exact ⟨ret_bool (unhide HF).symm, rfl⟩
        · have HF : Hid (R = ltF u (u.size - (k + 1)) (k + 1)) := hide (by rw [unhide hst, hd]; rfl)
          rw [hb] at hd
          have HD := hide hd
          clear hr hst hd
          go_wp2_with (go_at_call 102; refine (isLetter_any _ _).mono ?_; rw [unhide HD]; rintro e w' ⟨rfl, rfl⟩)
          go_round
          case rel => exact ⟨k + 1, by omega, by go_num, HF⟩
          case measure => simp [intOf]; omega
      · have HF : Hid (R = true) := hide (by rw [unhide hr, show u.size - k = 0 by omega]; rfl)
        clear hr
        go_wp2
        go_ret
        exact ⟨ret_bool (unhide HF).symm, rfl⟩

theorem Tab.start {w : World} {b o g : Nat} (h1 : w.cell? ⟨b, o, none⟩ = some (.int .i64 ((u.size : Int) + 1))) (h2 : w.cell? ⟨b, o + 1, none⟩ = some (.slice (some ⟨g, 0, none⟩) (s.size * (u.size + 1) * (u.size + 1)) (s.size * (u.size + 1) * (u.size + 1)))) (h3 : w.rowIs g 3 (s.size * (u.size + 1) * (u.size + 1)) (fun _ => .int .i64 2001)) : Tab w b o g s.size u.size emT :=
  ⟨h1, h2, fun _ _ _ hp ha he => h3.cell (ix_lt hp ha he), fun _ _ _ _ _ _ => h3.frozen _, fun _ _ _ _ => rfl⟩
theorem Ch.start {w w1 : World} {q r x y : Nat} (hn : NC s u w w1 q r x y) (hs : s.size ≤ 300) (hu : u.size ≤ 20) (t : TypeId) (C : Array Value) (hC : 9 ≤ C.size) (hy : y < w1.heap.size) :
    (w1.alloc (.cells C t)).there w1.heap.size 0 9 ∧ Ch ((w1.alloc (.cells C t)).setCells w1.heap.size 0 (chV s u q r x y)) w1.heap.size s u r x y q emT emT emT ∧ Below w1.heap.size w1 ((w1.alloc (.cells C t)).setCells w1.heap.size 0 (chV s u q r x y)) := by
  have h0 := thr_alloc w1 C t 9 hC
  have hb : Below w1.heap.size w1 ((w1.alloc (.cells C t)).setCells w1.heap.size 0 (chV s u q r x y)) := below_setRow _ (Nat.le_refl _) _ _ ((Below.refl _ _).alloc (Nat.le_refl _) _)
  have hr : ((w1.alloc (.cells C t)).setCells w1.heap.size 0 (chV s u q r x y)).rangeAt w1.heap.size 0 (chV s u q r x y) := World.rangeAt_setCells_same _ _ _ _ h0
  generalize (w1.alloc (.cells C t)).setCells w1.heap.size 0 (chV s u q r x y) = w2 at *
  obtain ⟨l1, l2, l3, l4⟩ := hn.lt
  have hat : ∀ j v, (chV s u q r x y)[j]? = some v → w2.cell? ⟨w1.heap.size, j, none⟩ = some v := fun j v hv => by
    have := hr j v hv
    rwa [Nat.zero_add] at this
  have hq := hn.sp.of_block (hb.block q (by omega))
  have hspc : ∀ p j, p < s.size → j < 4 → w2.cell? ⟨q, p * 4 + j, none⟩ = some (spc s p j) := fun p j hp hj => by
    have := hq.cell (i := p * 4 + j) (by omega)
    rw [this, if_pos (by omega), show (p * 4 + j) / 4 = p by omega, show (p * 4 + j) % 4 = j by omega]
  refine ⟨h0, ⟨hat 0 _ rfl, hat 1 _ rfl, hat 2 _ rfl, fun p hp => hspc p 0 hp (by omega), fun p hp => hspc p 1 hp (by omega), fun p hp => hspc p 2 hp (by omega), fun p hp => hspc p 3 hp (by omega), Tab.start (hat 3 _ rfl) (hat 4 _ rfl) (hn.tr.of_block (hb.block r (by omega))), Tab.start (hat 5 _ rfl) (hat 6 _ rfl) (hn.tx.of_block (hb.block x (by omega))), Tab.start (hat 7 _ rfl) (hat 8 _ rfl) (hn.ty.of_block (hb.block y (by omega))), hs, hu, ⟨⟨by omega, by omega, by omega⟩, ⟨by omega, by omega, by omega⟩, ⟨by omega, by omega, by omega⟩⟩⟩, hb⟩
end
end Go.Proofs.YtnfaiaoipeholaaGreatDoor

namespace Go.Proofs.YtnfaiaoipeholaaGreatDoor
open Go.RowKit
section
variable {s u : ByteArray}
theorem wret_two {a b : ByteArray} {c d : Int} (h : a = b) (g : c = d) : Ending.returned (.tuple #[.string a, .int .i64 c]) = .returned (.tuple #[.string b, .int .i64 d]) := by rw [h, g]
theorem start_isF (g : Gram s) : isF s 0 = true := by
  have := (g.rule 0 g.pos (by simp [begB])).1
  unfold isF; rw [this]; simp
/-- a row of bytes as a text -/
theorem wconv_tree {w : World} {wb b : Nat} {r x y q : Nat} {R X W : Tb} {T : List Int} (hk : Wt w wb b s u r x y q R X W T) (h0 : 0 < T.length) :
    ∃ g cap, w.cell? ⟨wb, 1, none⟩ = some (.slice (some ⟨g, 0, none⟩) T.length cap) ∧ (convert 83 9 (.slice (some ⟨g, 0, none⟩) T.length cap)).run Tryz.prog w = .ok (.string (strOfNums T)) w := by
  obtain ⟨v, h1, h2⟩ := hk.tre
  rcases h2.2 with ⟨_, e⟩ | ⟨g, cap, cur, e, _⟩
  · omega
  · subst e
    refine ⟨g, cap, h1, run_convert_bytes_arg _ 83 5 Tryz.underlying83 Tryz.underlying5 g 0 T.length cap T rfl (fun i hi => ?_) _ Tryz.underlying9⟩
    rw [Nat.zero_add, h2.cellAt i (by omega)]
    unfold wby
    rw [List.getElem?_map, List.getElem?_eq_getElem hi, List.getD_eq_getElem?_getD, List.getElem?_eq_getElem hi]; rfl

theorem Wt.start {w : World} {b r x y q : Nat} {R X W : Tb} {t : TypeId} (h : Ch w b s u r x y q R X W) (hl : b < w.heap.size ∧ r < w.heap.size ∧ x < w.heap.size ∧ y < w.heap.size ∧ q < w.heap.size) :
    Wt (w.alloc (.cells #[.pointer (some ⟨b, 0, none⟩), .slice none 0 0] t)) w.heap.size b s u r x y q R X W [] := by
  refine ⟨h.below ((Below.refl _ _).alloc (Nat.le_refl _) _), by simp, hl, ?_, ⟨_, ?_, World.ownsRow_nil _ _ _ _⟩, World.frozen?_alloc_new w _ t 1⟩
  · rw [World.cell?_alloc_new]; rfl
  · rw [World.cell?_alloc_new]; rfl
set_option maxHeartbeats 1000000 in
set_option maxRecDepth 1000000 in
theorem pParse_no [Inhabited Chr] (w : World) (hu : u.size ≤ maxLen) (h : isW u = false) : Calls Tryz.prog 25 #[.string s, .string u] w fun e w' => e = .returned (.tuple #[.string (prsR s u).1, .int .i64 (prsR s u).2]) ∧ Below w.heap.size w w' := by
  have e : prsR s u = (⟨#[]⟩, 12) := by unfold prsR; rw [if_pos h]
  rw [e]
  have H := hide h
  clear h e
  go_enter Tryz.func25, Tryz.ntmps25
  go_wp2_with (go_at_call 57; refine (isWord_any _ _ hu).mono ?_; rw [unhide H]; rintro e w' ⟨rfl, hw⟩; replace hw := hw.symm; subst hw)
  go_ret2
  exact ⟨rfl, Below.refl _ _⟩

set_option maxHeartbeats 1000000 in
set_option maxRecDepth 1000000 in
theorem pParse_ok [Inhabited Chr] (g : Gram s) (ins : Ins s) (w : World) (h : isW u = true) : Calls Tryz.prog 25 #[.string s, .string u] w fun e w' => e = .returned (.tuple #[.string (prsR s u).1, .int .i64 (prsR s u).2]) ∧ Below w.heap.size w w' ∧ HasFix s u := by
  have hu20 : u.size ≤ 20 := by
    have : ¬ 20 < u.size ∧ ltF u u.size 0 = true := by simpa [isW] using h
    omega
  have hu : u.size ≤ maxLen := by unfold maxLen; omega
  have hs := g.small
  have HF := hide (start_isF g)
  have H := hide h
  clear h
  generalize hPost : (fun (e : Ending) (w' : World) => e = .returned (.tuple #[.string (prsR s u).1, .int .i64 (prsR s u).2]) ∧ Below w.heap.size w w' ∧ HasFix s u) = Post
  have HP := hide hPost
  clear hPost
  go_enter Tryz.func25, Tryz.ntmps25
  go_wp2_with (first
    | (go_at_call 57; refine (isWord_any _ _ hu).mono ?_; rw [unhide H]; rintro e w' ⟨rfl, hw⟩; replace hw := hw.symm; subst hw)
    | fail)
  refine (newChart_any g hu20 _).mono ?_
  rintro e w1 ⟨q, r, x, y, rfl, hnc⟩
  have hyl := hnc.ty.lt
  obtain ⟨l1, l2, l3, l4⟩ := hnc.lt
  obtain ⟨t1, k1, b1⟩ := Ch.start hnc hs hu20 96 #[.string ⟨#[]⟩, .string ⟨#[]⟩, .slice none 0 0, .int .i64 0, .slice none 0 0, .int .i64 0, .slice none 0 0, .int .i64 0, .slice none 0 0] (by decide) hyl
  obtain ⟨MV, hMV⟩ : ∃ MV, MV = (chV s u q r x y).toArray := ⟨_, rfl⟩
  have hML : MV.toList = chV s u q r x y := by rw [hMV]
  have hMs : MV.size = 9 := by rw [hMV]; rfl
  rw [← hML] at k1 b1
  rw [← hMs] at t1
  have T1 := hide t1
  have K1 := hide k1
  have B1 : Hid (Below w.heap.size w _) := hide (hnc.bel.trans (b1.mono hnc.bel.size))
  have HIN : Hid ((Tryz.prog.info? 96).map (·.size) = some MV.size) := hide (by rw [hMs]; exact Tryz.infoChart)
  have HON : Hid (MV.all (·.oneCell') = true) := hide (by rw [hMV]; exact all_oneCell_toArray (chV_one _ _ _ _ _ _))
  rw [← hMV]
  clear t1 k1 b1 hML hMs hMV hnc
  go_wp2_with (first
    | (refine wpList_store_mid rfl 96 _ _ rfl w1.heap.size 0 MV rfl rfl (unhide T1) (unhide HIN) (unhide HON) ?_)
    | fail)
  generalize hw2 : World.setCells _ w1.heap.size 0 MV.toList = w2 at *
  clear hw2 T1
  refine (fill_any g ins (unhide K1) (B := w.heap.size) ⟨by omega, by omega, by omega⟩).mono ?_
  rintro e w3 ⟨R, X, W, rfl, k3, fx, b3⟩
  have HFX := hide fx
  have HB3 : Hid (Below w.heap.size w w3) := hide ((unhide B1).trans b3)
  have hbl := lt_cell k3.gram
  have H4 := hide (cfac_any g ins fx.toNrm k3 0 0 u.size 0 0 u.size (unhide HF) (Nat.zero_le _) (Nat.le_refl _) rfl rfl rfl)
  have HTB := hide (tabs_eq fx)
  have hpos : 1 ≤ fcC s u X W 0 0 u.size := fcC_pos
  have HPE : Hid (prsR s u = if 2000 < fcC s u X W 0 0 u.size then (⟨#[]⟩, 13) else (strOfNums (wrS s u R X W), 0)) := hide (by
    unfold prsR
    rw [if_neg (by rw [unhide H]; decide), tabs_eq fx])
  have HWF := hide (fun (w5 : World) (wb : Nat) (h5 : Wt w5 wb w1.heap.size s u r x y q R X W []) (hv : fcC s u X W 0 0 u.size ≤ 2000) => writeFactor_any fx g ins (writeExpression_all fx g ins (fcC s u X W 0 0 u.size)) h5 0 0 u.size 0 0 u.size (unhide HF) (Nat.zero_le _) (Nat.le_refl _) hv (by omega) (by simp; omega) rfl rfl rfl)
  have hlen := fun hv => (wrF_ok (t := s) (n := fcC s u X W 0 0 u.size) (N := fcC s u X W 0 0 u.size) fx g ins (Nat.le_refl _) (wrE_ok fx g ins _) (unhide HF) (Nat.zero_le _) (Nat.le_refl _) hv (by omega)).len
  have HLN := hide hlen
  have K3 := hide k3
  have hWS : Hid (wrF s X W (wrE s u R X W (fcC s u X W 0 0 u.size)) 0 0 u.size = wrS s u R X W) := hide rfl
  rw [unhide hWS] at HWF HLN
  have hz3 : w1.heap.size < w3.heap.size := hbl
  generalize wrS s u R X W = L at *
  generalize fcC s u X W 0 0 u.size = V at *
  clear fx k3 hlen HTB K1 B1 HIN HON b3
  by_cases hbig : 2000 < V
  · have HR : Hid (prsR s u = (⟨#[]⟩, 13)) := hide (by rw [unhide HPE, if_pos hbig])
    clear HPE
    go_wp2_with fail
    refine (unhide H4).mono ?_
    rintro e4' w4 ⟨rfl, hb4⟩
    have HB4 : Hid (Below w.heap.size w w4) := hide ((unhide HB3).trans (hb4.mono (unhide HB3).size))
    clear hb4
    go_wp2
    rw [← unhide HP]
    exact ⟨wret_two (by rw [unhide HR]) (by rw [unhide HR]), unhide HB4, ⟨R, X, W, unhide HFX⟩⟩
  · have HR : Hid (prsR s u = (strOfNums L, 0)) := hide (by rw [unhide HPE, if_neg hbig])
    clear HPE
    go_wp2_with fail
    refine (unhide H4).mono ?_
    rintro e4' w4 ⟨rfl, hb4⟩
    have HB4 : Hid (Below w.heap.size w w4) := hide ((unhide HB3).trans (hb4.mono (unhide HB3).size))
    have K4 := hide ((unhide K3).below hb4)
    have hz4 := hb4.size
    clear hb4
    go_wp2_with fail
    have hWt := Wt.start (unhide K4) (t := 101) ⟨by omega, by omega, by omega, by omega, by omega⟩
    have HB5 : Hid (∀ o, Below w.heap.size w (w4.alloc o)) := hide (fun o => (unhide HB4).alloc (unhide HB4).size o)
    have hz5 := (unhide HB4).size
    have hln := unhide HLN (by omega)
    refine (unhide HWF _ _ hWt (by omega)).mono ?_
    rintro e5' w5 ⟨rfl, hk5, hb5⟩
    rw [List.nil_append] at hk5
    obtain ⟨gg, cap, ht, hcv⟩ := wconv_tree hk5 (by omega)
    have HB6 : Hid (Below w.heap.size w w5) := hide ((unhide HB5 _).trans (hb5.mono hz5))
    rw [hln] at ht hcv
    clear hk5 hb5 hWt HWF hln
    go_wp2
    rw [← unhide HP]
    exact ⟨wret_two (by rw [unhide HR]) (by rw [unhide HR]), unhide HB6, ⟨R, X, W, unhide HFX⟩⟩

/-- what Parse answers -/
def OutP [Inhabited Chr] (s u : ByteArray) (w : World) (e : Ending) (w' : World) : Prop :=
  e = .returned (.tuple #[.string (prs s u).1, .int .i64 (prs s u).2]) ∧ Below w.heap.size w w' ∧ ((chk s).1 = 0 → isW u = true → HasFix s u)
set_option maxHeartbeats 1000000 in
set_option maxRecDepth 1000000 in
theorem parse_any [Inhabited Chr] (w : World) (hs : s.size ≤ maxLen) (hu : u.size ≤ maxLen) : Calls Tryz.prog 11 #[.string s, .string u] w (OutP s u w) := by
  by_cases h : (chk s).1 = 0
  · have g := gram_of h
    have ins := ins_chk h
    have HE : Hid (prsR s u = prs s u) := hide (by unfold prs; rw [if_neg (by simp [h])])
    have h' : ((chk s).1 != 0) = false := by simp [h]
    have HC := hide h
    clear h
    cases hw : isW u
    · have HW := hide hw
      have HO : Hid (∀ e w', e = .returned (.tuple #[.string (prs s u).1, .int .i64 (prs s u).2]) → Below w.heap.size w w' → OutP s u w e w') := hide (fun e w' h1 h2 => ⟨h1, h2, fun _ h3 => by rw [unhide HW] at h3; cases h3⟩)
      clear hw
      generalize OutP s u w = Post at *
      go_enter Tryz.func11, Tryz.ntmps11
      go_wp2_with (first
        | (go_at_call 21; refine (rcheck_any _ _ hs).mono ?_; rintro e w1 ⟨rfl, hb1⟩; replace hb1 := hide hb1)
        | (go_at_call 25; refine (pParse_no _ hu (unhide HW)).mono ?_; rw [unhide HE]; rintro e w2 ⟨rfl, hb2⟩; replace hb2 := hide hb2))
      exact unhide HO _ _ rfl ((unhide hb1).trans ((unhide hb2).mono (unhide hb1).size))
    · have HW := hide hw
      have HO : Hid (∀ e w', e = .returned (.tuple #[.string (prs s u).1, .int .i64 (prs s u).2]) → Below w.heap.size w w' → HasFix s u → OutP s u w e w') := hide (fun e w' h1 h2 h3 => ⟨h1, h2, fun _ _ => h3⟩)
      clear hw
      generalize OutP s u w = Post at *
      go_enter Tryz.func11, Tryz.ntmps11
      go_wp2_with (first
        | (go_at_call 21; refine (rcheck_any _ _ hs).mono ?_; rintro e w1 ⟨rfl, hb1⟩; replace hb1 := hide hb1)
        | (go_at_call 25; refine (pParse_ok g ins _ (unhide HW)).mono ?_; rw [unhide HE]; rintro e w2 ⟨rfl, hb2, hfx⟩; replace hb2 := hide hb2; replace hfx := hide hfx))
      exact unhide HO _ _ rfl ((unhide hb1).trans ((unhide hb2).mono (unhide hb1).size)) (unhide hfx)
  · have HO : Hid (∀ e w', e = .returned (.tuple #[.string ⟨#[]⟩, .int .i64 (chk s).1]) → Below w.heap.size w w' → OutP s u w e w') := hide (fun e w' h1 h2 => ⟨by rw [h1]; unfold prs; rw [if_pos h], h2, fun h3 => absurd h3 h⟩)
    have h' : ((chk s).1 != 0) = true := by simp [h]
    clear h
    generalize OutP s u w = Post at *
    go_enter Tryz.func11, Tryz.ntmps11
    go_wp2_with (first
      | (go_at_call 21; refine (rcheck_any _ _ hs).mono ?_; rintro e w1 ⟨rfl, hb1⟩; replace hb1 := hide hb1))
    exact unhide HO _ _ rfl (unhide hb1)
end
end Go.Proofs.YtnfaiaoipeholaaGreatDoor
