/- Parse's chart: how it is made. -/
import Derived.Test.YtnfaiaoipeholaaGreatVFil
import Derived.Deep.OwnRows
import Derived.Laws.OwnMore
import Derived.Great.BuildSlice
import Derived.Deep.Upon
namespace Go.Proofs.YtnfaiaoipeholaaGreat
open Go.RowKit
section
variable {s u : ByteArray}
set_option maxHeartbeats 1000000 in
set_option maxRecDepth 1000000 in
theorem newSpot_any (g : Gram s) (w : World) (pq : Int) (p : Nat) (hp : p < s.size) (e1 : pq = p) :
    Calls Tryz.prog 136 #[.string s, .int .i64 pq] w fun e w' => e = .returned (spV s p) ∧ Below w.heap.size w w' := by
  subst e1
  have hs := g.small
  have hs' : s.size ≤ maxLen := by unfold maxLen; omega
  have H1 := hide (fun w => behind_any s p p w hs rfl (by omega))
  have H2 := hide (fun w => next_any s p p w hs rfl (by omega))
  have HBel : Hid (∀ o1 o2, Below w.heap.size w ((w.alloc o1).alloc o2)) := hide (fun o1 o2 => ((Below.refl _ _).alloc (Nat.le_refl _) o1).alloc (by simp) o2)
  unfold spV
  generalize hb1 : ((bh s p : Nat) : Int) = v1 at *
  generalize hb2 : pl (nx s p) = v2 at *
  clear hb1 hb2
  by_cases hn : cN (bt s p) = true
  · obtain ⟨j, j1, j2, _, _⟩ := g.name p hn
    have hwi : ((wi s p : Nat) : Int) = (j : Int) + 2 := by unfold wi; rw [if_pos hn, j1]; omega
    rw [hwi]
    have HN := hide hn
    have HJ := hide j1
    clear hn hwi j1
    unfold begs
    by_cases h61 : bt s ((p : Int) - 1) = 61
    · rw [show (bt s ((p : Int) - 1) == 61 || cO (bt s ((p : Int) - 1))) = true by simp [h61]]
      have h61' : (bt s ((p : Int) - 1) == 61) = true := by simp [h61]
      clear h61
      go_enter Tryz.func136, Tryz.ntmps136
      go_wp2_with (first
        | (go_at_call 77; refine (at_any _ _ _ hs').mono ?_; rintro e w' ⟨rfl, rfl⟩)
        | (go_at_call 76; refine (isName_any _ _).mono ?_; rintro e w' ⟨rfl, rfl⟩; rw [unhide HN])
        | (go_at_call 78; refine (expression_any s _ j _ hs (unhide HJ) j2).mono ?_; rintro e w' ⟨rfl, rfl⟩)
        | (go_at_call 161; refine (unhide H1 _).mono ?_; rintro e w' ⟨rfl, rfl⟩)
        | (go_at_call 164; refine (unhide H2 _).mono ?_; rintro e w' ⟨rfl, rfl⟩))
      refine bodyPost_ret (v := .agg #[.int .i64 ((j : Int) + 2), .int .i64 v1, .int .i64 v2, .bool true]) (results_cell_mid Tryz.results136 _ _ w.heap.size [.int .i64 ((j : Int) + 2), .int .i64 v1, .int .i64 v2, .bool true] _ rfl ?_ Tryz.underlying126 rfl Tryz.infoSpot) rfl ⟨rfl, unhide HBel _ _⟩
      exact range_below (range_alloc w [.int .i64 ((j : Int) + 2), .int .i64 v1, .int .i64 v2, .bool true] _) ((Below.refl _ _).alloc (Nat.le_refl _) _)
    · rw [show (bt s ((p : Int) - 1) == 61 || cO (bt s ((p : Int) - 1))) = cO (bt s ((p : Int) - 1)) by simp [h61]]
      have h61' : (bt s ((p : Int) - 1) == 61) = false := by simp [h61]
      clear h61
      cases ho : cO (bt s ((p : Int) - 1))
      · have HO := hide ho
        clear ho
        go_enter Tryz.func136, Tryz.ntmps136
        go_wp2_with (first
          | (go_at_call 77; refine (at_any _ _ _ hs').mono ?_; rintro e w' ⟨rfl, rfl⟩)
          | (go_at_call 76; refine (isName_any _ _).mono ?_; rintro e w' ⟨rfl, rfl⟩; rw [unhide HN])
          | (go_at_call 78; refine (expression_any s _ j _ hs (unhide HJ) j2).mono ?_; rintro e w' ⟨rfl, rfl⟩)
          | (go_at_call 161; refine (unhide H1 _).mono ?_; rintro e w' ⟨rfl, rfl⟩)
          | (go_at_call 164; refine (unhide H2 _).mono ?_; rintro e w' ⟨rfl, rfl⟩)
          | (go_at_call 80; refine (isOpening_any _ _).mono ?_; rintro e w' ⟨rfl, rfl⟩; rw [unhide HO]))
        refine bodyPost_ret (v := .agg #[.int .i64 ((j : Int) + 2), .int .i64 v1, .int .i64 v2, .bool false]) (results_cell_mid Tryz.results136 _ _ w.heap.size [.int .i64 ((j : Int) + 2), .int .i64 v1, .int .i64 v2, .bool false] _ rfl ?_ Tryz.underlying126 rfl Tryz.infoSpot) rfl ⟨rfl, unhide HBel _ _⟩
        exact range_below (range_alloc w [.int .i64 ((j : Int) + 2), .int .i64 v1, .int .i64 v2, .bool false] _) ((Below.refl _ _).alloc (Nat.le_refl _) _)
      · have HO := hide ho
        clear ho
        go_enter Tryz.func136, Tryz.ntmps136
        go_wp2_with (first
          | (go_at_call 77; refine (at_any _ _ _ hs').mono ?_; rintro e w' ⟨rfl, rfl⟩)
          | (go_at_call 76; refine (isName_any _ _).mono ?_; rintro e w' ⟨rfl, rfl⟩; rw [unhide HN])
          | (go_at_call 78; refine (expression_any s _ j _ hs (unhide HJ) j2).mono ?_; rintro e w' ⟨rfl, rfl⟩)
          | (go_at_call 161; refine (unhide H1 _).mono ?_; rintro e w' ⟨rfl, rfl⟩)
          | (go_at_call 164; refine (unhide H2 _).mono ?_; rintro e w' ⟨rfl, rfl⟩)
          | (go_at_call 80; refine (isOpening_any _ _).mono ?_; rintro e w' ⟨rfl, rfl⟩; rw [unhide HO]))
        refine bodyPost_ret (v := .agg #[.int .i64 ((j : Int) + 2), .int .i64 v1, .int .i64 v2, .bool true]) (results_cell_mid Tryz.results136 _ _ w.heap.size [.int .i64 ((j : Int) + 2), .int .i64 v1, .int .i64 v2, .bool true] _ rfl ?_ Tryz.underlying126 rfl Tryz.infoSpot) rfl ⟨rfl, unhide HBel _ _⟩
        exact range_below (range_alloc w [.int .i64 ((j : Int) + 2), .int .i64 v1, .int .i64 v2, .bool true] _) ((Below.refl _ _).alloc (Nat.le_refl _) _)
  · have hwi : ((wi s p : Nat) : Int) = (p : Int) + 1 := by unfold wi; rw [if_neg hn]; omega
    rw [hwi]
    have HN : Hid (cN (bt s p) = false) := hide (by simpa using hn)
    clear hn hwi
    unfold begs
    by_cases h61 : bt s ((p : Int) - 1) = 61
    · rw [show (bt s ((p : Int) - 1) == 61 || cO (bt s ((p : Int) - 1))) = true by simp [h61]]
      have h61' : (bt s ((p : Int) - 1) == 61) = true := by simp [h61]
      clear h61
      go_enter Tryz.func136, Tryz.ntmps136
      go_wp2_with (first
        | (go_at_call 77; refine (at_any _ _ _ hs').mono ?_; rintro e w' ⟨rfl, rfl⟩)
        | (go_at_call 76; refine (isName_any _ _).mono ?_; rintro e w' ⟨rfl, rfl⟩; rw [unhide HN])
        | (go_at_call 161; refine (unhide H1 _).mono ?_; rintro e w' ⟨rfl, rfl⟩)
        | (go_at_call 164; refine (unhide H2 _).mono ?_; rintro e w' ⟨rfl, rfl⟩))
      refine bodyPost_ret (v := .agg #[.int .i64 ((p : Int) + 1), .int .i64 v1, .int .i64 v2, .bool true]) (results_cell_mid Tryz.results136 _ _ w.heap.size [.int .i64 ((p : Int) + 1), .int .i64 v1, .int .i64 v2, .bool true] _ rfl ?_ Tryz.underlying126 rfl Tryz.infoSpot) rfl ⟨rfl, unhide HBel _ _⟩
      exact range_below (range_alloc w [.int .i64 ((p : Int) + 1), .int .i64 v1, .int .i64 v2, .bool true] _) ((Below.refl _ _).alloc (Nat.le_refl _) _)
    · rw [show (bt s ((p : Int) - 1) == 61 || cO (bt s ((p : Int) - 1))) = cO (bt s ((p : Int) - 1)) by simp [h61]]
      have h61' : (bt s ((p : Int) - 1) == 61) = false := by simp [h61]
      clear h61
      cases ho : cO (bt s ((p : Int) - 1))
      · have HO := hide ho
        clear ho
        go_enter Tryz.func136, Tryz.ntmps136
        go_wp2_with (first
          | (go_at_call 77; refine (at_any _ _ _ hs').mono ?_; rintro e w' ⟨rfl, rfl⟩)
          | (go_at_call 76; refine (isName_any _ _).mono ?_; rintro e w' ⟨rfl, rfl⟩; rw [unhide HN])
          | (go_at_call 161; refine (unhide H1 _).mono ?_; rintro e w' ⟨rfl, rfl⟩)
          | (go_at_call 164; refine (unhide H2 _).mono ?_; rintro e w' ⟨rfl, rfl⟩)
          | (go_at_call 80; refine (isOpening_any _ _).mono ?_; rintro e w' ⟨rfl, rfl⟩; rw [unhide HO]))
        refine bodyPost_ret (v := .agg #[.int .i64 ((p : Int) + 1), .int .i64 v1, .int .i64 v2, .bool false]) (results_cell_mid Tryz.results136 _ _ w.heap.size [.int .i64 ((p : Int) + 1), .int .i64 v1, .int .i64 v2, .bool false] _ rfl ?_ Tryz.underlying126 rfl Tryz.infoSpot) rfl ⟨rfl, unhide HBel _ _⟩
        exact range_below (range_alloc w [.int .i64 ((p : Int) + 1), .int .i64 v1, .int .i64 v2, .bool false] _) ((Below.refl _ _).alloc (Nat.le_refl _) _)
      · have HO := hide ho
        clear ho
        go_enter Tryz.func136, Tryz.ntmps136
        go_wp2_with (first
          | (go_at_call 77; refine (at_any _ _ _ hs').mono ?_; rintro e w' ⟨rfl, rfl⟩)
          | (go_at_call 76; refine (isName_any _ _).mono ?_; rintro e w' ⟨rfl, rfl⟩; rw [unhide HN])
          | (go_at_call 161; refine (unhide H1 _).mono ?_; rintro e w' ⟨rfl, rfl⟩)
          | (go_at_call 164; refine (unhide H2 _).mono ?_; rintro e w' ⟨rfl, rfl⟩)
          | (go_at_call 80; refine (isOpening_any _ _).mono ?_; rintro e w' ⟨rfl, rfl⟩; rw [unhide HO]))
        refine bodyPost_ret (v := .agg #[.int .i64 ((p : Int) + 1), .int .i64 v1, .int .i64 v2, .bool true]) (results_cell_mid Tryz.results136 _ _ w.heap.size [.int .i64 ((p : Int) + 1), .int .i64 v1, .int .i64 v2, .bool true] _ rfl ?_ Tryz.underlying126 rfl Tryz.infoSpot) rfl ⟨rfl, unhide HBel _ _⟩
        exact range_below (range_alloc w [.int .i64 ((p : Int) + 1), .int .i64 v1, .int .i64 v2, .bool true] _) ((Below.refl _ _).alloc (Nat.le_refl _) _)

end
end Go.Proofs.YtnfaiaoipeholaaGreat
/- Parse's tables: how they are made. -/
namespace Go.Proofs.YtnfaiaoipeholaaGreat
open Go.RowKit
section
variable {s u : ByteArray}

theorem Tryz.infoIntP : (Tryz.prog.info? 3).map (fun i => (i.zero, i.size, i.bytes)) = some (some (.int .i64 0), 1, 8) := by kernel_rfl
theorem Tryz.infoTab : (Tryz.prog.info? 73).map (·.size) = some 2 := by kernel_rfl
/-- numbers that are all too great -/
def emC (N k : Nat) : List Value := List.replicate k (.int .i64 2001) ++ List.replicate (N - k) (.int .i64 0)
/-- a table while it is made -/
structure NT (w wr : World) (N k : Nat) (v : Int) : Prop where
  row : wr.rowIs (w.heap.size + 1) 3 N (fun i => .int .i64 (if i < k then 2001 else 0))
  t0 : wr.cell? ⟨w.heap.size + 1 + 1, 0, none⟩ = some (.int .i64 v)
  t1 : wr.cell? ⟨w.heap.size + 1 + 1, 1, none⟩ = some (.slice (some ⟨w.heap.size + 1, 0, none⟩) N N)
  r0 : wr.cell? ⟨w.heap.size, 0, none⟩ = some (.int .i64 0)
  r1 : wr.cell? ⟨w.heap.size, 1, none⟩ = some (.slice none 0 0)
  f0 : wr.frozen? ⟨w.heap.size, 0, none⟩ = false
  f1 : wr.frozen? ⟨w.heap.size, 1, none⟩ = false
  bel : Below w.heap.size w wr
theorem NT.step {w wr : World} {N k : Nat} {v : Int} (h : NT w wr N k v) : NT w (wr.setCell ⟨w.heap.size + 1, k, none⟩ (.int .i64 2001)) N (k + 1) v := by
  refine ⟨?_, ?_, ?_, ?_, ?_, by rw [World.frozen?_setCell]; exact h.f0, by rw [World.frozen?_setCell]; exact h.f1, h.bel.setCell (p := ⟨w.heap.size + 1, k, none⟩) (Nat.le_succ _) _⟩
  · have := h.row.set k (.int .i64 2001)
    refine this.congr (fun i _ => ?_)
    by_cases e : i = k
    · subst e; simp
    · simp only [e, if_false]
      by_cases e2 : i < k
      · rw [if_pos e2, if_pos (by omega)]
      · rw [if_neg e2, if_neg (by omega)]
  · rw [World.cell?_setCell_other wr _ _ _ (fun e => by injection e with e _; omega)]; exact h.t0
  · rw [World.cell?_setCell_other wr _ _ _ (fun e => by injection e with e _; omega)]; exact h.t1
  · rw [World.cell?_setCell_other wr _ _ _ (fun e => by injection e with e _; omega)]; exact h.r0
  · rw [World.cell?_setCell_other wr _ _ _ (fun e => by injection e with e _; omega)]; exact h.r1
/-- what is left of it -/
structure NTo (w w' : World) (N : Nat) : Prop where
  row : w'.rowIs (w.heap.size + 1) 3 N (fun _ => .int .i64 2001)
  bel : Below w.heap.size w w'
theorem NT.done {w wr : World} {N : Nat} {v v1 : Int} {v2 : Value} (h : NT w wr N N v) : NTo w ((wr.setCell ⟨w.heap.size, 0, none⟩ (.int .i64 v1)).setCell ⟨w.heap.size, 1, none⟩ v2) N := by
  refine ⟨?_, (h.bel.setCell (p := ⟨w.heap.size, 0, none⟩) (Nat.le_refl _) _).setCell (p := ⟨w.heap.size, 1, none⟩) (Nat.le_refl _) _⟩
  exact ((h.row.congr (fun i hi => by rw [if_pos hi])).setOther (a := ⟨w.heap.size, 0, none⟩) (Nat.succ_ne_self _) _).setOther (a := ⟨w.heap.size, 1, none⟩) (Nat.succ_ne_self _) _
theorem NT.start (w : World) (N : Nat) (v : Int) : NT w (((w.alloc (.cells #[.int .i64 0, .slice none 0 0] 73)).alloc (.cells (madeCells #[.int .i64 0] N) 3)).alloc (.cells #[.int .i64 v, .slice (some ⟨w.heap.size + 1, 0, none⟩) N N] 73)) N 0 v := by
  have b1 : Below w.heap.size w (w.alloc (.cells #[.int .i64 0, .slice none 0 0] 73)) := (Below.refl _ _).alloc (Nat.le_refl _) _
  have c0 : (w.alloc (.cells #[.int .i64 0, .slice none 0 0] 73)).cell? ⟨w.heap.size, 0, none⟩ = some (.int .i64 0) := by rw [World.cell?_alloc_new]; rfl
  have c1 : (w.alloc (.cells #[.int .i64 0, .slice none 0 0] 73)).cell? ⟨w.heap.size, 1, none⟩ = some (.slice none 0 0) := by rw [World.cell?_alloc_new]; rfl
  have f0 := World.frozen?_alloc_new w #[.int .i64 0, .slice none 0 0] 73 0
  have f1 := World.frozen?_alloc_new w #[.int .i64 0, .slice none 0 0] 73 1
  generalize hw1 : w.alloc (.cells #[.int .i64 0, .slice none 0 0] 73) = w1 at *
  have hz1 : w1.heap.size = w.heap.size + 1 := by rw [← hw1]; simp
  have b2 : Below w1.heap.size w1 (w1.alloc (.cells (madeCells #[.int .i64 0] N) 3)) := (Below.refl _ _).alloc (Nat.le_refl _) _
  have r2 := World.rowIs_made w1 (.int .i64 0) N 3
  generalize hw2 : w1.alloc (.cells (madeCells #[.int .i64 0] N) 3) = w2 at *
  have hz2 : w2.heap.size = w.heap.size + 1 + 1 := by rw [← hw2]; simp [hz1]
  have b3 : Below w2.heap.size w2 (w2.alloc (.cells #[.int .i64 v, .slice (some ⟨w.heap.size + 1, 0, none⟩) N N] 73)) := (Below.refl _ _).alloc (Nat.le_refl _) _
  have d0 : (w2.alloc (.cells #[.int .i64 v, .slice (some ⟨w.heap.size + 1, 0, none⟩) N N] 73)).cell? ⟨w2.heap.size, 0, none⟩ = some (.int .i64 v) := by rw [World.cell?_alloc_new]; rfl
  have d1 : (w2.alloc (.cells #[.int .i64 v, .slice (some ⟨w.heap.size + 1, 0, none⟩) N N] 73)).cell? ⟨w2.heap.size, 1, none⟩ = some (.slice (some ⟨w.heap.size + 1, 0, none⟩) N N) := by rw [World.cell?_alloc_new]; rfl
  have r3 := r2.alloc (.cells #[.int .i64 v, .slice (some ⟨w.heap.size + 1, 0, none⟩) N N] 73)
  rw [hz2] at d0 d1
  rw [hz1] at r3
  have b12 : Below w.heap.size w w2 := b1.trans (b2.mono (by omega))
  have k0 : ∀ o, (w2.alloc (.cells #[.int .i64 v, .slice (some ⟨w.heap.size + 1, 0, none⟩) N N] 73)).cell? ⟨w.heap.size, o, none⟩ = w1.cell? ⟨w.heap.size, o, none⟩ := fun o => (b3.cell (p := ⟨w.heap.size, o, none⟩) (by show w.heap.size < _; omega)).trans (b2.cell (p := ⟨w.heap.size, o, none⟩) (by show w.heap.size < _; omega))
  have k1 : ∀ o, (w2.alloc (.cells #[.int .i64 v, .slice (some ⟨w.heap.size + 1, 0, none⟩) N N] 73)).frozen? ⟨w.heap.size, o, none⟩ = w1.frozen? ⟨w.heap.size, o, none⟩ := fun o => (b3.frozen (p := ⟨w.heap.size, o, none⟩) (by show w.heap.size < _; omega)).trans (b2.frozen (p := ⟨w.heap.size, o, none⟩) (by show w.heap.size < _; omega))
  exact ⟨r3.congr (fun i _ => by rw [if_neg (by omega)]), d0, d1, (k0 0).trans c0, (k0 1).trans c1, (k1 0).trans f0, (k1 1).trans f1, b12.trans (b3.mono (by omega))⟩
set_option maxHeartbeats 1000000 in
set_option maxRecDepth 1000000 in
theorem newTable_any (w : World) (hs : s.size ≤ 300) (hu : u.size ≤ 20) :
    Calls Tryz.prog 94 #[.string s, .string u] w fun e w' => e = .returned (.agg #[.int .i64 ((u.size : Int) + 1), .slice (some ⟨w.heap.size + 1, 0, none⟩) (s.size * (u.size + 1) * (u.size + 1)) (s.size * (u.size + 1) * (u.size + 1))]) ∧ NTo w w' (s.size * (u.size + 1) * (u.size + 1)) := by
  have hN : s.size * (u.size + 1) * (u.size + 1) ≤ 150000 := by
    have h1 : s.size * (u.size + 1) ≤ 300 * 21 := Nat.mul_le_mul hs (by omega)
    have h2 : s.size * (u.size + 1) * (u.size + 1) ≤ 6300 * 21 := Nat.mul_le_mul h1 (by omega)
    omega
  have hN1 : s.size * (u.size + 1) ≤ 6300 := by have := Nat.mul_le_mul hs (show u.size + 1 ≤ 21 by omega); omega
  have e1 : (s.size : Int) * ((u.size : Int) + 1) = ((s.size * (u.size + 1) : Nat) : Int) := by simp
  have e2 : (s.size : Int) * ((u.size : Int) + 1) * ((u.size : Int) + 1) = ((s.size * (u.size + 1) * (u.size + 1) : Nat) : Int) := by simp
  generalize hNN : s.size * (u.size + 1) * (u.size + 1) = N at *
  generalize s.size * (u.size + 1) = M at *
  have c1 : (s.size : Int) * ((u.size : Int) + 1) ≤ 6300 := by omega
  have c2 : (s.size : Int) * ((u.size : Int) + 1) * ((u.size : Int) + 1) ≤ 150000 := by omega
  have c3 : 0 ≤ (s.size : Int) * ((u.size : Int) + 1) := by omega
  have c4 : 0 ≤ (s.size : Int) * ((u.size : Int) + 1) * ((u.size : Int) + 1) := by omega
  have hmk : ∀ w : World, (Instr.makeSlice 25 (.int .i64 ((s.size : Int) * ((u.size : Int) + 1) * ((u.size : Int) + 1))) (.int .i64 ((s.size : Int) * ((u.size : Int) + 1) * ((u.size : Int) + 1)))).run Tryz.prog w = .ok (.slice (some ⟨w.heap.size, 0, none⟩) N N) (w.alloc (.cells (madeCells #[.int .i64 0] N) 3)) := by
    rw [e2]
    exact run_make_row' (P := Tryz.prog) 25 3 (.int .i64 0) 8 Tryz.underlying25 Tryz.infoIntP rfl .i64 .i64 N (by omega) (by omega)
  clear e1 e2 hNN
  go_enter Tryz.func94, Tryz.ntmps94
  go_wp2_with fail
  have HS := hide (NT.start w N ((u.size : Int) + 1))
  generalize hw1 : World.alloc _ _ = w1 at *
  clear hw1 hmk
  go_loopw [7] (fun iv wr => ∃ k : Nat, iv = .int .i64 k ∧ k ≤ N ∧ Hid (NT w wr N k ((u.size : Int) + 1))) (fun iv _ => N - (intOf iv).toNat)
  case atStart => exact ⟨0, rfl, Nat.zero_le _, HS⟩
  case round =>
    obtain ⟨k, rfl, hk, hI⟩ := hrel
    have t0 := (unhide hI).t0
    have t1 := (unhide hI).t1
    have r0 := (unhide hI).r0
    have r1 := (unhide hI).r1
    have f0 := (unhide hI).f0
    have f1 := (unhide hI).f1
    by_cases hlt : k < N
    · have q1 := (unhide hI).row.cell hlt
      have q2 := (unhide hI).row.frozen k
      go_wp2
      go_roundw
      case rel => exact ⟨k + 1, by go_num, by omega, hide (unhide hI).step⟩
      case measure => simp [intOf]; omega
    · have hkN : k = N := by omega
      subst hkN
      have HD := hide (fun v1 v2 => (unhide hI).done (v1 := v1) (v2 := v2))
      clear hI
      go_wp2
      refine bodyPost_ret (v := .agg #[.int .i64 ((u.size : Int) + 1), .slice (some ⟨w.heap.size + 1, 0, none⟩) k k]) (results_cell_mid Tryz.results94 _ _ w.heap.size [.int .i64 ((u.size : Int) + 1), .slice (some ⟨w.heap.size + 1, 0, none⟩) k k] _ rfl ?_ Tryz.underlying73 rfl Tryz.infoTab) rfl ⟨rfl, unhide HD _ _⟩
      intro j v hv
      match j, hv with
      | 0, hv => simp only [List.getElem?_cons_zero, Option.some.injEq] at hv; subst hv; rw [World.cell?_setCell_other _ _ _ _ (fun e => by injection e with _ e; omega)]; exact World.cell?_setCell_same wr _ _ r0
      | 1, hv => simp only [List.getElem?_cons_succ, List.getElem?_cons_zero, Option.some.injEq] at hv; subst hv; exact World.cell?_setCell_same _ _ _ ((World.cell?_setCell_other wr _ _ _ (fun e => by injection e with _ e; omega)).trans r1)
      | j + 2, hv => simp at hv
end
end Go.Proofs.YtnfaiaoipeholaaGreat
/- Parse's spots: how they are made. -/
namespace Go.Proofs.YtnfaiaoipeholaaGreat
open Go.RowKit
/-- a cell of a spot -/
def spc (s : ByteArray) (p : Nat) : Nat → Value
  | 0 => .int .i64 (wi s p : Nat)
  | 1 => .int .i64 (bh s p : Nat)
  | 2 => .int .i64 (pl (nx s p))
  | _ => .bool (begs s p)
def zpc : Nat → Value
  | 0 => .int .i64 0
  | 1 => .int .i64 0
  | 2 => .int .i64 0
  | _ => .bool false
theorem Tryz.infoSpot4 : (Tryz.prog.info? 126).map (fun i => (i.zero, i.size, i.bytes)) = some (some (.agg #[.int .i64 0, .int .i64 0, .int .i64 0, .bool false]), 4, 32) := by kernel_rfl
/-- the spots while they are made -/
structure NS (s : ByteArray) (w wr : World) (k : Nat) : Prop where
  row : wr.rowIs w.heap.size 126 (s.size * 4) (fun i => if i / 4 < k then spc s (i / 4) (i % 4) else zpc (i % 4))
  bel : Below w.heap.size w wr
theorem NS.start (s : ByteArray) (w : World) : NS s w (w.alloc (.cells (madeCells #[.int .i64 0, .int .i64 0, .int .i64 0, .bool false] (s.size * 4)) 126)) 0 := by
  refine ⟨?_, (Below.refl _ _).alloc (Nat.le_refl _) _⟩
  have hsz := size_madeCells #[Value.int .i64 0, .int .i64 0, .int .i64 0, .bool false] (s.size * 4)
  have := World.rowIs_alloc w (madeCells #[.int .i64 0, .int .i64 0, .int .i64 0, .bool false] (s.size * 4)) 126 (fun i => if i / 4 < 0 then spc s (i / 4) (i % 4) else zpc (i % 4)) ?_
  · rw [hsz] at this; exact this
  intro i hi
  rw [hsz] at hi
  rw [if_neg (by omega)]
  have h4 : i % 4 < 4 := Nat.mod_lt _ (by omega)
  simp only [madeCells, Array.getElem?_map, Array.getElem?_range, hi, if_true, Option.map_some]
  show some (#[Value.int .i64 0, .int .i64 0, .int .i64 0, .bool false][i % 4]!) = some (zpc (i % 4))
  generalize i % 4 = j at *
  match j, h4 with
  | 0, _ => rfl
  | 1, _ => rfl
  | 2, _ => rfl
  | 3, _ => rfl
theorem NS.old {s : ByteArray} {w wr w' : World} {k : Nat} (h : NS s w wr k) (hb : Below wr.heap.size wr w') : NS s w w' k :=
  ⟨h.row.of_block (hb.block _ h.row.lt), h.bel.trans (hb.mono h.bel.size)⟩
theorem NS.step {s : ByteArray} {w wr : World} {k : Nat} (h : NS s w wr k) : NS s w ((((wr.setCell ⟨w.heap.size, k * 4, none⟩ (.int .i64 (wi s k : Nat))).setCell ⟨w.heap.size, k * 4 + 1, none⟩ (.int .i64 (bh s k : Nat))).setCell ⟨w.heap.size, k * 4 + 2, none⟩ (.int .i64 (pl (nx s k)))).setCell ⟨w.heap.size, k * 4 + 3, none⟩ (.bool (begs s k))) (k + 1) := by
  refine ⟨((((h.row.set (k * 4) _).set (k * 4 + 1) _).set (k * 4 + 2) _).set (k * 4 + 3) _).congr (fun i hi => ?_), (((h.bel.setCell (p := ⟨w.heap.size, k * 4, none⟩) (Nat.le_refl _) _).setCell (p := ⟨w.heap.size, k * 4 + 1, none⟩) (Nat.le_refl _) _).setCell (p := ⟨w.heap.size, k * 4 + 2, none⟩) (Nat.le_refl _) _).setCell (p := ⟨w.heap.size, k * 4 + 3, none⟩) (Nat.le_refl _) _⟩
  by_cases e3 : i = k * 4 + 3
  · subst e3
    rw [if_pos rfl, if_pos (by omega), show (k * 4 + 3) / 4 = k by omega, show (k * 4 + 3) % 4 = 3 by omega]; rfl
  rw [if_neg e3]
  by_cases e2 : i = k * 4 + 2
  · subst e2
    rw [if_pos rfl, if_pos (by omega), show (k * 4 + 2) / 4 = k by omega, show (k * 4 + 2) % 4 = 2 by omega]; rfl
  rw [if_neg e2]
  by_cases e1 : i = k * 4 + 1
  · subst e1
    rw [if_pos rfl, if_pos (by omega), show (k * 4 + 1) / 4 = k by omega, show (k * 4 + 1) % 4 = 1 by omega]; rfl
  rw [if_neg e1]
  by_cases e0 : i = k * 4
  · subst e0
    rw [if_pos rfl, if_pos (by omega), show (k * 4) / 4 = k by omega, show (k * 4) % 4 = 0 by omega]; rfl
  rw [if_neg e0]
  by_cases e : i / 4 < k
  · rw [if_pos e, if_pos (by omega)]
  · rw [if_neg e, if_neg (by omega)]
section
variable {s u : ByteArray}
set_option maxHeartbeats 1000000 in
set_option maxRecDepth 1000000 in
theorem newSpots_any (g : Gram s) (w : World) : Calls Tryz.prog 93 #[.string s] w fun e w' => e = .returned (.slice (some ⟨w.heap.size, 0, none⟩) s.size s.size) ∧ NS s w w' s.size := by
  have hs := g.small
  have hmk : ∀ w : World, (Instr.makeSlice 71 (.int .i64 (s.size : Int)) (.int .i64 (s.size : Int))).run Tryz.prog w = .ok (.slice (some ⟨w.heap.size, 0, none⟩) s.size s.size) (w.alloc (.cells (madeCells #[.int .i64 0, .int .i64 0, .int .i64 0, .bool false] (s.size * 4)) 126)) := by
    intro w
    obtain ⟨i, hi, hzz⟩ := Option.map_eq_some_iff.1 Tryz.infoSpot4
    simp only [Prod.mk.injEq] at hzz
    obtain ⟨hz, hsz, hb⟩ := hzz
    have hr := run_make (P := Tryz.prog) w 71 126 i _ Tryz.underlying71 hi hz .i64 .i64 s.size s.size (by omega) (Int.le_refl _) (by rw [hb]; omega) (by omega)
    simp only [Int.toNat_natCast, hsz] at hr
    exact hr
  have HS := hide (NS.start s w)
  go_enter Tryz.func93, Tryz.ntmps93
  go_wp2
  generalize hw1 : World.alloc _ _ = w1 at *
  clear hw1 hmk
  go_loopw [4] (fun iv wr => ∃ k : Nat, iv = .int .i64 k ∧ k ≤ s.size ∧ Hid (NS s w wr k)) (fun iv _ => s.size - (intOf iv).toNat)
  case atStart => exact ⟨0, rfl, Nat.zero_le _, HS⟩
  case round =>
    obtain ⟨k, rfl, hk, hI⟩ := hrel
    by_cases hlt : k < s.size
    · go_wp2_with fail
      refine (newSpot_any g _ k k hlt rfl).mono ?_
      rintro e1' w2 ⟨rfl, hb2⟩
      have hI2 := hide ((unhide hI).old hb2)
      clear hb2 hI
      have q0 := (unhide hI2).row.cell (i := k * 4) (by omega)
      have q1 := (unhide hI2).row.cell (i := k * 4 + 1) (by omega)
      have q2 := (unhide hI2).row.cell (i := k * 4 + 2) (by omega)
      have q3 := (unhide hI2).row.cell (i := k * 4 + 3) (by omega)
      have f0 := (unhide hI2).row.frozen (k * 4)
      have f1 := (unhide hI2).row.frozen (k * 4 + 1)
      have f2 := (unhide hI2).row.frozen (k * 4 + 2)
      have f3 := (unhide hI2).row.frozen (k * 4 + 3)
      rw [if_neg (by omega)] at q0 q1 q2 q3
      generalize zpc (k * 4 % 4) = z0 at *
      generalize zpc ((k * 4 + 1) % 4) = z1 at *
      generalize zpc ((k * 4 + 2) % 4) = z2 at *
      generalize zpc ((k * 4 + 3) % 4) = z3 at *
      have hI3 := hide (unhide hI2).step
      unfold spV
      generalize ((wi s k : Nat) : Int) = v0 at *
      generalize ((bh s k : Nat) : Int) = v1 at *
      generalize pl (nx s k) = v2 at *
      generalize begs s k = v3 at *
      go_wp2
      go_roundw
      case rel => exact ⟨k + 1, by go_num, by omega, hI3⟩
      case measure => simp [intOf]; omega
    · have hkN : k = s.size := by omega
      subst hkN
      go_wp2
      go_ret
      exact ⟨rfl, unhide hI⟩
end
end Go.Proofs.YtnfaiaoipeholaaGreat
/- Parse's chart, new. -/
namespace Go.Proofs.YtnfaiaoipeholaaGreat
open Go.RowKit
theorem thr_alloc (w : World) (C : Array Value) (t : TypeId) (n : Nat) (h : n ≤ C.size) : (w.alloc (.cells C t)).there w.heap.size 0 n := fun j hj => by
  refine ⟨?_, World.frozen?_alloc_new w C t (0 + j)⟩
  rw [Nat.zero_add, World.cell?_alloc_new]
  simp; omega
theorem thr_below {w w1 : World} {b n B : Nat} (h : w.there b 0 n) (hb : Below B w w1) (hlt : b < B) : w1.there b 0 n := fun j hj => by
  obtain ⟨h1, h2⟩ := h j hj
  exact ⟨by rw [hb.cell (p := ⟨b, 0 + j, none⟩) hlt]; exact h1, (hb.frozen (p := ⟨b, 0 + j, none⟩) hlt).trans h2⟩
section
variable {s u : ByteArray}
/-- a chart as a value -/
def chV (s u : ByteArray) (q r x y : Nat) : List Value :=
  [.string s, .string u, .slice (some ⟨q, 0, none⟩) s.size s.size, .int .i64 ((u.size : Int) + 1), .slice (some ⟨r, 0, none⟩) (s.size * (u.size + 1) * (u.size + 1)) (s.size * (u.size + 1) * (u.size + 1)),
    .int .i64 ((u.size : Int) + 1), .slice (some ⟨x, 0, none⟩) (s.size * (u.size + 1) * (u.size + 1)) (s.size * (u.size + 1) * (u.size + 1)),
    .int .i64 ((u.size : Int) + 1), .slice (some ⟨y, 0, none⟩) (s.size * (u.size + 1) * (u.size + 1)) (s.size * (u.size + 1) * (u.size + 1))]
theorem Tryz.infoChart : (Tryz.prog.info? 75).map (·.size) = some 9 := by kernel_rfl
theorem chV_len (s u : ByteArray) (q r x y : Nat) : (chV s u q r x y).length = 9 := rfl
theorem chV_one (s u : ByteArray) (q r x y : Nat) : ∀ v ∈ chV s u q r x y, v.oneCell' = true := by
  intro v hv
  simp only [chV, List.mem_cons, List.not_mem_nil, or_false] at hv
  rcases hv with rfl | rfl | rfl | rfl | rfl | rfl | rfl | rfl | rfl <;> rfl
theorem Tryz.builtChart (s u : ByteArray) (k : Int) (n N q r x y : Nat) : Tryz.prog.built 75 [(0, .string s), (1, .string u), (2, .slice (some ⟨q, 0, none⟩) n n), (3, .agg #[.int .i64 k, .slice (some ⟨r, 0, none⟩) N N]), (4, .agg #[.int .i64 k, .slice (some ⟨x, 0, none⟩) N N]), (5, .agg #[.int .i64 k, .slice (some ⟨y, 0, none⟩) N N])] =
    some #[.string s, .string u, .slice (some ⟨q, 0, none⟩) n n, .int .i64 k, .slice (some ⟨r, 0, none⟩) N N, .int .i64 k, .slice (some ⟨x, 0, none⟩) N N, .int .i64 k, .slice (some ⟨y, 0, none⟩) N N] := by kernel_rfl
/-- what lies beside a new chart -/
structure NC (s u : ByteArray) (w w' : World) (q r x y : Nat) : Prop where
  sp : w'.rowIs q 126 (s.size * 4) (fun i => if i / 4 < s.size then spc s (i / 4) (i % 4) else zpc (i % 4))
  tr : w'.rowIs r 3 (s.size * (u.size + 1) * (u.size + 1)) (fun _ => .int .i64 2001)
  tx : w'.rowIs x 3 (s.size * (u.size + 1) * (u.size + 1)) (fun _ => .int .i64 2001)
  ty : w'.rowIs y 3 (s.size * (u.size + 1) * (u.size + 1)) (fun _ => .int .i64 2001)
  lt : w.heap.size ≤ q ∧ q < r ∧ r < x ∧ x < y
  bel : Below w.heap.size w w'
/-- the new chart's value -/
structure CV (s u : ByteArray) (w w5 : World) (q r x y : Nat) (MV : Array Value) : Prop where
  val : MV = (chV s u q r x y).toArray
  thr : w5.there w.heap.size 0 MV.size
  nc : NC s u w (w5.setCells w.heap.size 0 MV.toList) q r x y
  one : MV.all (·.oneCell') = true
  inf : (Tryz.prog.info? 75).map (·.size) = some MV.size
  inf2 : (Tryz.prog.info? 75).map (·.size) = some MV.toList.length
  blt : Tryz.prog.built 75 [(0, .string s), (1, .string u), (2, .slice (some ⟨q, 0, none⟩) s.size s.size), (3, .agg #[.int .i64 ((u.size : Int) + 1), .slice (some ⟨r, 0, none⟩) (s.size * (u.size + 1) * (u.size + 1)) (s.size * (u.size + 1) * (u.size + 1))]), (4, .agg #[.int .i64 ((u.size : Int) + 1), .slice (some ⟨x, 0, none⟩) (s.size * (u.size + 1) * (u.size + 1)) (s.size * (u.size + 1) * (u.size + 1))]), (5, .agg #[.int .i64 ((u.size : Int) + 1), .slice (some ⟨y, 0, none⟩) (s.size * (u.size + 1) * (u.size + 1)) (s.size * (u.size + 1) * (u.size + 1))])] = some MV
theorem chart_facts {w w1 w2 w3 w4 w5 : World} {N : Nat} (hN : N = s.size * (u.size + 1) * (u.size + 1)) (hz1 : w1.heap.size = w.heap.size + 1) (b1 : Below w.heap.size w w1) (t1 : w1.there w.heap.size 0 9) (hb2 : NS s w1 w2 s.size) (hb3 : NTo w2 w3 N) (hb4 : NTo w3 w4 N) (hb5 : NTo w4 w5 N) :
    ∃ MV, CV s u w w5 w1.heap.size (w2.heap.size + 1) (w3.heap.size + 1) (w4.heap.size + 1) MV := by
  subst hN
  have z2 := hb2.bel.size
  have z3 := hb3.bel.size
  have z4 := hb4.bel.size
  have z5 := hb5.bel.size
  have l2 := hb2.row.lt
  have l3 := hb3.row.lt
  have l4 := hb4.row.lt
  have l5 := hb5.row.lt
  have hth : w5.there w.heap.size 0 9 := thr_below (thr_below (thr_below (thr_below t1 hb2.bel (by omega)) hb3.bel (by omega)) hb4.bel (by omega)) hb5.bel (by omega)
  have hblt := Tryz.builtChart s u ((u.size : Int) + 1) s.size (s.size * (u.size + 1) * (u.size + 1)) w1.heap.size (w2.heap.size + 1) (w3.heap.size + 1) (w4.heap.size + 1)
  refine ⟨(chV s u w1.heap.size (w2.heap.size + 1) (w3.heap.size + 1) (w4.heap.size + 1)).toArray, rfl, hth, ?_, all_oneCell_toArray (chV_one _ _ _ _ _ _), Tryz.infoChart, Tryz.infoChart, hblt⟩
  generalize (chV s u w1.heap.size (w2.heap.size + 1) (w3.heap.size + 1) (w4.heap.size + 1)).toArray.toList = L
  have hs2 : Below w.heap.size w5 (w5.setCells w.heap.size 0 L) := below_setRow _ (Nat.le_refl _) _ _ (Below.refl _ _)
  have hk : ∀ b', w.heap.size < b' → b' < w5.heap.size → (w5.setCells w.heap.size 0 L).heap[b']? = w5.heap[b']? := fun b' h1 h2 => World.heap_setCells_other w5 _ _ _ h2 (by omega)
  refine ⟨?_, ?_, ?_, hb5.row.of_block (hk _ (by omega) (by omega)), ⟨by omega, by omega, by omega, by omega⟩, ?_⟩
  · exact (((hb2.row.of_block (hb3.bel.block _ (by omega))).of_block (hb4.bel.block _ (by omega))).of_block (hb5.bel.block _ (by omega))).of_block (hk _ (by omega) (by omega))
  · exact ((hb3.row.of_block (hb4.bel.block _ (by omega))).of_block (hb5.bel.block _ (by omega))).of_block (hk _ (by omega) (by omega))
  · exact (hb4.row.of_block (hb5.bel.block _ (by omega))).of_block (hk _ (by omega) (by omega))
  · exact ((((b1.trans (hb2.bel.mono (by omega))).trans (hb3.bel.mono (by omega))).trans (hb4.bel.mono (by omega))).trans (hb5.bel.mono (by omega))).trans hs2
set_option maxHeartbeats 1000000 in
set_option maxRecDepth 1000000 in
theorem newChart_any (g : Gram s) (hu : u.size ≤ 20) (w : World) : Calls Tryz.prog 51 #[.string s, .string u] w fun e w' => ∃ q r x y, e = .returned (.agg (chV s u q r x y).toArray) ∧ NC s u w w' q r x y := by
  have hs := g.small
  generalize hPost : (fun (e : Ending) (w' : World) => ∃ q r x y, e = .returned (.agg (chV s u q r x y).toArray) ∧ NC s u w w' q r x y) = Post
  have HP := hide hPost
  clear hPost
  have b0 : Below w.heap.size w (w.alloc (.cells #[.string ⟨#[]⟩, .string ⟨#[]⟩, .slice none 0 0, .int .i64 0, .slice none 0 0, .int .i64 0, .slice none 0 0, .int .i64 0, .slice none 0 0] 75)) := (Below.refl _ _).alloc (Nat.le_refl _) _
  have t0 := thr_alloc w #[.string ⟨#[]⟩, .string ⟨#[]⟩, .slice none 0 0, .int .i64 0, .slice none 0 0, .int .i64 0, .slice none 0 0, .int .i64 0, .slice none 0 0] 75 9 (by decide)
  have z0 : (w.alloc (.cells #[.string ⟨#[]⟩, .string ⟨#[]⟩, .slice none 0 0, .int .i64 0, .slice none 0 0, .int .i64 0, .slice none 0 0, .int .i64 0, .slice none 0 0] 75)).heap.size = w.heap.size + 1 := by simp
  have B0 := hide b0
  have T0 := hide t0
  have Z0 := hide z0
  clear b0 t0 z0
  go_enter Tryz.func51, Tryz.ntmps51
  go_wp2_with fail
  generalize hw1 : World.alloc _ _ = w1 at *
  clear hw1
  refine (newSpots_any g _).mono ?_
  rintro e w2 ⟨rfl, hb2⟩
  go_wp2_with fail
  refine (newTable_any _ hs hu).mono ?_
  rintro e w3 ⟨rfl, hb3⟩
  go_wp2_with fail
  refine (newTable_any _ hs hu).mono ?_
  rintro e w4 ⟨rfl, hb4⟩
  go_wp2_with fail
  refine (newTable_any _ hs hu).mono ?_
  rintro e w5 ⟨rfl, hb5⟩
  obtain ⟨MV, cv⟩ := chart_facts rfl (unhide Z0) (unhide B0) (unhide T0) hb2 hb3 hb4 hb5
  have HPO : Hid (∀ w', NC s u w w' w1.heap.size (w2.heap.size + 1) (w3.heap.size + 1) (w4.heap.size + 1) → Post (.returned (.agg MV)) w') := hide (fun w' hn => by rw [← unhide HP]; exact ⟨_, _, _, _, by rw [cv.val], hn⟩)
  have HCV := hide cv
  have HBU := hide cv.blt
  have HTH := hide cv.thr
  have HIN := hide cv.inf
  have HON := hide cv.one
  clear cv HP B0 T0 Z0 hb2 hb3 hb4 hb5
  generalize s.size * (u.size + 1) * (u.size + 1) = N at *
  generalize Value.slice (some { block := w1.heap.size, off := 0 }) s.size s.size = A2 at *
  generalize Value.agg #[Value.int IntKind.i64 ((u.size : Int) + 1), Value.slice (some { block := w2.heap.size + 1, off := 0 }) N N] = A3 at *
  generalize Value.agg #[Value.int IntKind.i64 ((u.size : Int) + 1), Value.slice (some { block := w3.heap.size + 1, off := 0 }) N N] = A4 at *
  generalize Value.agg #[Value.int IntKind.i64 ((u.size : Int) + 1), Value.slice (some { block := w4.heap.size + 1, off := 0 }) N N] = A5 at *
  go_wp2_with (first
    | (refine wpList_buildTo rfl 75 _ rfl _ rfl MV (by rw [Array.toList_map]; exact unhide HBU) ?_)
    | (refine wpList_store_mid rfl 75 _ _ rfl w.heap.size 0 MV rfl rfl (unhide HTH) (unhide HIN) (unhide HON) ?_))
  refine bodyPost_ret (v := .agg MV) (results_cell_mid Tryz.results51 _ _ w.heap.size MV.toList _ rfl (World.rangeAt_setCells_same _ _ _ _ (by rw [Array.length_toList]; exact unhide HTH)) Tryz.underlying75 rfl (unhide HCV).inf2) rfl ?_
  exact unhide HPO _ (unhide HCV).nc
end
end Go.Proofs.YtnfaiaoipeholaaGreat
