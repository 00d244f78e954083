/- The law Reduces: its call played, and the call at its head. -/
import Derived.Test.YtnfaiaoipeholaaGreatOps
import Derived.Test.YtnfaiaoipeholaaGreatRePReduceT
import Derived.Test.YtnfaiaoipeholaaGreatReRrd
namespace Go.Proofs.YtnfaiaoipeholaaGreat
open Go.RowKit
theorem way_end : ∀ (r : List ByteArray) (t : ByteArray), r ≠ [] → ∃ A, wayL (t :: r) = A ++ (10 :: seg (lastT t r) 0 (lastT t r).size)
  | [], t, h => absurd rfl h
  | [u], t, _ => ⟨seg t 0 t.size, by simp [wayL, lastT]⟩
  | u :: v :: r, t, _ => by
    obtain ⟨A, hA⟩ := way_end (v :: r) u (by simp)
    refine ⟨seg t 0 t.size ++ (10 :: A), ?_⟩
    simp only [wayL, lastT] at hA ⊢
    rw [hA]; simp
/-- how a way ends -/
theorem way_last {r : List ByteArray} {t : ByteArray} (h : r ≠ []) : ∃ n, 0 < n ∧ (strOfNums (wayL (t :: r))).size = n + (lastT t r).size ∧ (strOfNums (wayL (t :: r))).extract n (strOfNums (wayL (t :: r))).size = lastT t r := by
  obtain ⟨A, hA⟩ := way_end r t h
  have hat : At (strOfNums (wayL (t :: r))) 0 (wayL (t :: r)) := At.strs (wayL_byts (t :: r))
  have hz : (strOfNums (wayL (t :: r))).size = (wayL (t :: r)).length := strOfNums_size _
  generalize strOfNums (wayL (t :: r)) = W at *
  rw [hA] at hat hz
  have h2 := hat.right.tail
  simp only [List.length_append, List.length_cons, seg_size] at hz
  have h3 := seg_At h2
  rw [seg_size] at h3
  refine ⟨A.length + 1, by omega, by omega, ?_⟩
  rw [ext_seg W (Nat.le_refl _), show W.size = 0 + A.length + 1 + (lastT t r).size by omega, show A.length + 1 = 0 + A.length + 1 by omega, h3, strs_seg]
theorem num6_any (x : Int) (w : World) : Calls Tryz.prog 32 #[.int .i64 x] w fun e w' => e = .returned (.int .i64 x) ∧ w' = w := by
  go_enter Tryz.func32, Tryz.ntmps32
  go_wp2
  go_ret; exact ⟨rfl, rfl⟩

set_option maxHeartbeats 1000000 in
set_option maxRecDepth 1000000 in
theorem plays_reduce (n m : Int) (s t u : ByteArray) (w : World) (hs : s.size ≤ maxLen) (ht : t.size ≤ maxLen) (hu : u.size ≤ maxLen) :
    Calls Tryz.prog 24 #[.agg #[.int .i64 6, .int .i64 n, .int .i64 m, .string s, .string t, .string u]] w fun e w' => e = .returned (.bool true) ∧ Below w.heap.size w w' := by
  have HRT := hide (fun w => refReduced_true (s := s) (t := t) (c := u) w hs ht hu n)
  have HRA := hide (fun w => reduce_any (s := s) (t := t) (c := u) w hs ht hu n)
  unfold OutRd at HRA
  generalize rdc s t u n = R at *
  obtain ⟨way, a, y, z⟩ := R
  simp only at HRT HRA
  go_enter Tryz.func24, Tryz.ntmps24
  go_wp2_with fail
  refine (unhide HRA _).mono ?_
  rintro e w1 ⟨rfl, hb1⟩
  clear HRA
  have hz := hb1.size
  have hlt : w.heap.size < w1.heap.size := by simp at hz; omega
  have q1 : w1.cell? ⟨w.heap.size, 1, none⟩ = some (.int .i64 n) := (hb1.cell (p := ⟨w.heap.size, 1, none⟩) (by simp)).trans (by rw [World.cell?_alloc_new]; rfl)
  have q3 : w1.cell? ⟨w.heap.size, 3, none⟩ = some (.string s) := (hb1.cell (p := ⟨w.heap.size, 3, none⟩) (by simp)).trans (by rw [World.cell?_alloc_new]; rfl)
  have q4 : w1.cell? ⟨w.heap.size, 4, none⟩ = some (.string t) := (hb1.cell (p := ⟨w.heap.size, 4, none⟩) (by simp)).trans (by rw [World.cell?_alloc_new]; rfl)
  have q5 : w1.cell? ⟨w.heap.size, 5, none⟩ = some (.string u) := (hb1.cell (p := ⟨w.heap.size, 5, none⟩) (by simp)).trans (by rw [World.cell?_alloc_new]; rfl)
  have HB : Hid (Below w.heap.size w w1) := hide (((Below.refl _ _).alloc (Nat.le_refl _) _).trans (hb1.mono (by simp)))
  clear hb1 hz
  go_wp2_with fail
  go_region_held (fun w' => w'.cell? ⟨w.heap.size, 1, none⟩ = some (.int .i64 n) ∧ w'.cell? ⟨w.heap.size, 3, none⟩ = some (.string s) ∧ w'.cell? ⟨w.heap.size, 4, none⟩ = some (.string t) ∧ w'.cell? ⟨w.heap.size, 5, none⟩ = some (.string u)) (first | exact ⟨q1, q3, q4, q5⟩ | exact ⟨(hb2.cell (p := ⟨w.heap.size, 1, none⟩) hlt).trans q1, (hb2.cell (p := ⟨w.heap.size, 3, none⟩) hlt).trans q3, (hb2.cell (p := ⟨w.heap.size, 4, none⟩) hlt).trans q4, (hb2.cell (p := ⟨w.heap.size, 5, none⟩) hlt).trans q5⟩) (first
    | (go_at_call 32; refine (num6_any _ _).mono ?_; rintro e w' ⟨rfl, rfl⟩)
    | (go_at_call 37; refine (unhide HRT _).mono ?_; rintro e w2 ⟨rfl, hb2⟩))
  go_wp2
  go_ret
  refine ⟨rfl, ?_⟩
  exact (unhide HB).trans (Below.trans ((Below.refl _ _).drew) (hb2.mono (unhide HB).size))

set_option maxHeartbeats 1000000 in
set_option maxRecDepth 1000000 in
theorem heads_reduce (w : World) : Calls Tryz.prog 23 #[.int .i64 6] w fun e w' => e = .returned (.bool true) ∧ Below w.heap.size w w' := by
  have hsz : (⟨#[83, 61, 123, 97, 124, 66, 125, 91, 99, 93, 59, 66, 61, 60, 98, 62, 59]⟩ : ByteArray).size ≤ maxLen := by decide +kernel
  have htz : (⟨#[83, 40, 48, 123, 48, 97, 44, 49, 66, 40, 48, 60, 48, 98, 44, 48, 98, 62, 41, 125, 91, 48, 99, 93, 41]⟩ : ByteArray).size ≤ maxLen := by decide +kernel
  have huz : (⟨#[98]⟩ : ByteArray).size ≤ maxLen := by decide +kernel
  have HRA := hide (fun w => reduce_any w hsz htz huz 99)
  have hyes : rdc ⟨#[83, 61, 123, 97, 124, 66, 125, 91, 99, 93, 59, 66, 61, 60, 98, 62, 59]⟩ ⟨#[83, 40, 48, 123, 48, 97, 44, 49, 66, 40, 48, 60, 48, 98, 44, 48, 98, 62, 41, 125, 91, 48, 99, 93, 41]⟩ ⟨#[98]⟩ 99 = (strOfNums (wayL (hrT :: hrW.1)), hrW.2.1, hrW.2.2, 0) := rdc_yes hr_rfs
  obtain ⟨n, hn0, hnz, hne⟩ := way_last (t := hrT) hr_some
  rw [hr_last] at hnz hne
  have hwb : (strOfNums (wayL (hrT :: hrW.1))).size ≤ 100000 := by decide +kernel
  unfold OutRd at HRA
  rw [hyes, hr_why] at HRA
  generalize strOfNums (wayL (hrT :: hrW.1)) = W at *
  generalize hrW.2.1 = a at *
  have hzz : hrZ.size = 17 := rfl
  rw [hzz] at hnz
  have hne' : W.extract n W.size = ⟨#[83, 40, 48, 123, 49, 66, 40, 48, 60, 48, 98, 62, 41, 125, 91, 93, 41]⟩ := hne
  rw [hnz] at hne'
  have HNE := hide hne'
  clear hne hne' hyes
  go_enter Tryz.func23, Tryz.ntmps23
  go_wp2_with fail
  refine (unhide HRA _).mono ?_
  rintro e w1 ⟨rfl, hb1⟩
  have HB := hide hb1
  clear hb1 HRA
  have hsub : (W.size : Int) - 17 = (n : Int) := by omega
  go_wp2
  go_ret
  refine ⟨ret_bool ?_, unhide HB⟩
  rw [unhide HNE, ByteArray.toList_eq]
  rfl
end Go.Proofs.YtnfaiaoipeholaaGreat
