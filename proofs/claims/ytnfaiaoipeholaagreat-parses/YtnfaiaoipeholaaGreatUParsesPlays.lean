/- The law Parses: its call played, and the call at its head. -/
import Derived.Test.YtnfaiaoipeholaaGreatOps
import Derived.Test.YtnfaiaoipeholaaGreatUPsr
import Derived.Test.YtnfaiaoipeholaaGreatURParsed
import Derived.Test.YtnfaiaoipeholaaGreatUParG
namespace Go.Proofs.YtnfaiaoipeholaaGreat
open Go.RowKit

set_option maxHeartbeats 400000 in
theorem numP_any (x : Int) (w : World) : Calls Tryz.prog 32 #[.int .i64 x] w fun e w' => e = .returned (.int .i64 x) ∧ w' = w := by
  go_enter Tryz.func32, Tryz.ntmps32
  go_wp2
  go_ret; exact ⟨rfl, rfl⟩

set_option maxHeartbeats 400000 in
set_option maxRecDepth 1000000 in
theorem plays_parse (n m : Int) (s t u : ByteArray) (w : World) (hs : s.size ≤ maxLen) (ht : t.size ≤ maxLen) (hu : u.size ≤ maxLen) :
    Calls Tryz.prog 24 #[.agg #[.int .i64 5, .int .i64 n, .int .i64 m, .string s, .string t, .string u]] w fun e w' => e = .returned (.bool true) ∧ Below w.heap.size w w' := by
  obtain ⟨ch0⟩ := chr_some
  have : Inhabited Chr := ⟨ch0⟩
  go_enter Tryz.func24, Tryz.ntmps24
  go_wp2_with fail
  refine (parse_any _ hs ht).mono ?_
  rintro e w1 ⟨rfl, hb1, hf1⟩
  have HF := hide hf1
  clear hf1
  have hz := hb1.size
  have hlt : w.heap.size < w1.heap.size := by simp at hz; omega
  have q3 : w1.cell? ⟨w.heap.size, 3, none⟩ = some (.string s) := (hb1.cell (p := ⟨w.heap.size, 3, none⟩) (by simp)).trans (by rw [World.cell?_alloc_new]; rfl)
  have q4 : w1.cell? ⟨w.heap.size, 4, none⟩ = some (.string t) := (hb1.cell (p := ⟨w.heap.size, 4, none⟩) (by simp)).trans (by rw [World.cell?_alloc_new]; rfl)
  have q5 : w1.cell? ⟨w.heap.size, 5, none⟩ = some (.string u) := (hb1.cell (p := ⟨w.heap.size, 5, none⟩) (by simp)).trans (by rw [World.cell?_alloc_new]; rfl)
  have HB : Hid (Below w.heap.size w w1) := hide (((Below.refl _ _).alloc (Nat.le_refl _) _).trans (hb1.mono (by simp)))
  clear hb1 hz
  go_wp2_with fail
  go_region_held (fun w' => w'.cell? ⟨w.heap.size, 3, none⟩ = some (.string s) ∧ w'.cell? ⟨w.heap.size, 4, none⟩ = some (.string t) ∧ w'.cell? ⟨w.heap.size, 5, none⟩ = some (.string u)) (first | exact ⟨q3, q4, q5⟩ | exact ⟨(hb2.cell (p := ⟨w.heap.size, 3, none⟩) hlt).trans q3, (hb2.cell (p := ⟨w.heap.size, 4, none⟩) hlt).trans q4, (hb2.cell (p := ⟨w.heap.size, 5, none⟩) hlt).trans q5⟩) (first
    | (go_at_call 32; refine (numP_any _ _).mono ?_; rintro e w' ⟨rfl, rfl⟩)
    | (go_at_call 36; refine (refParsed_true _ _ _ _ hs ht hu (unhide HF)).mono ?_; rintro e w2 ⟨rfl, hb2⟩))
  go_wp2
  go_ret
  refine ⟨rfl, ?_⟩
  exact (unhide HB).trans (Below.trans ((Below.refl _ _).drew) (hb2.mono (unhide HB).size))

set_option maxHeartbeats 400000 in
set_option maxRecDepth 1000000 in
theorem heads_parse (w : World) : Calls Tryz.prog 23 #[.int .i64 5] w fun e w' => e = .returned (.bool true) ∧ Below w.heap.size w w' := by
  obtain ⟨ch0⟩ := chr_some
  have : Inhabited Chr := ⟨ch0⟩
  have hsz : (⟨#[83, 61, 97, 83, 124, 59]⟩ : ByteArray).size ≤ maxLen := by decide +kernel
  have haz : (⟨#[97, 97]⟩ : ByteArray).size ≤ maxLen := by decide +kernel
  have hbz : (⟨#[97, 98]⟩ : ByteArray).size ≤ maxLen := by decide +kernel
  have hA : Hid (prs ⟨#[83, 61, 97, 83, 124, 59]⟩ ⟨#[97, 97]⟩ = (⟨#[83, 40, 48, 97, 83, 40, 48, 97, 83, 40, 49, 41, 41, 41]⟩, 0)) := hide hd_prsA
  have hB : Hid (prs ⟨#[83, 61, 97, 83, 124, 59]⟩ ⟨#[97, 98]⟩ = (⟨#[]⟩, 13)) := hide hd_prsB
  go_enter Tryz.func23, Tryz.ntmps23
  go_wp2_with fail
  refine (parse_any _ hsz haz).mono ?_
  rintro e w1 ⟨rfl, hb1, _⟩
  rw [unhide hA]
  go_wp2_with fail
  refine (parse_any _ hsz hbz).mono ?_
  rintro e w2 ⟨rfl, hb2, _⟩
  rw [unhide hB]
  go_wp2
  go_ret
  exact ⟨rfl, bnextR hb1 hb2⟩
end Go.Proofs.YtnfaiaoipeholaaGreat
