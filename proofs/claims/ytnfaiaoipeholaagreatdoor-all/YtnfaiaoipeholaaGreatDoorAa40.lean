/- ReducesPlays AllPlays Shelf AllFree AllWalk -/
import Derived.Test.YtnfaiaoipeholaaGreatDoorAa01
import Derived.Test.YtnfaiaoipeholaaGreatDoorAa37
import Derived.Test.YtnfaiaoipeholaaGreatDoorAa39
import Derived.Test.YtnfaiaoipeholaaGreatDoorAa03
import Derived.Test.YtnfaiaoipeholaaGreatDoorAa08
import Derived.Test.YtnfaiaoipeholaaGreatDoorAa16
import Derived.Test.YtnfaiaoipeholaaGreatDoorAa22
import Derived.Test.YtnfaiaoipeholaaGreatDoorAa28
import Derived.Shelf.Strconv.Itoa0
import Derived.Shelf.Strconv.Itoa1
import Derived.Shelf.LaysM
import Derived.Shelf.Strconv.Itoa2
import Derived.Shelf.Strconv.Itoa3
import Derived.Test.YtnfaiaoipeholaaGreatDoorProg
import Derived.Test.YtnfaiaoipeholaaGreatDoorAa27
import Derived.Lib.AppendIntMem
import Derived.Lib.ItoaLen
namespace Go.Proofs.YtnfaiaoipeholaaGreatDoor
open Go.RowKit
theorem way_end : ∀ (r : List ByteArray) (t : ByteArray), r ≠ [] → ∃ A, wayL (t :: r) = A ++ (10 :: seg (lastT t r) 0 (lastT t r).size)
  | [], t, h => absurd rfl h
  | [u], t, _ => ⟨seg t 0 t.size, by simp [wayL, lastT]⟩
  | u :: v :: r, t, _ => by
    obtain ⟨A, hA⟩ := way_end (v :: r) u (by simp)
    refine ⟨seg t 0 t.size ++ (10 :: A), ?_⟩
    simp only [wayL, lastT] at hA ⊢
    rw [hA]; simp
/-- how a way ends -/
theorem way_last {r : List ByteArray} {t : ByteArray} (h : r ≠ []) : ∃ n, 0 < n ∧ (strOfNums (wayL (t :: r))).size = n + (lastT t r).size ∧ (strOfNums (wayL (t :: r))).extract n (strOfNums (wayL (t :: r))).size = lastT t r := by
  obtain ⟨A, hA⟩ := way_end r t h
  have hat : At (strOfNums (wayL (t :: r))) 0 (wayL (t :: r)) := At.strs (wayL_byts (t :: r))
  have hz : (strOfNums (wayL (t :: r))).size = (wayL (t :: r)).length := strOfNums_size _
  generalize strOfNums (wayL (t :: r)) = W at *
  rw [hA] at hat hz
  have h2 := hat.right.tail
  simp only [List.length_append, List.length_cons, seg_size] at hz
  have h3 := seg_At h2
  rw [seg_size] at h3
  refine ⟨A.length + 1, by omega, by omega, ?_⟩
  rw [ext_seg W (Nat.le_refl _), show W.size = 0 + A.length + 1 + (lastT t r).size by omega, show A.length + 1 = 0 + A.length + 1 by omega, h3, strs_seg]
theorem num6_any (x : Int) (w : World) : Calls Tryz.prog 15 #[.int .i64 x] w fun e w' => e = .returned (.int .i64 x) ∧ w' = w := by
  go_enter Tryz.func15, Tryz.ntmps15
  go_wp2
  go_ret; exact ⟨rfl, rfl⟩

set_option maxHeartbeats 1000000 in
set_option maxRecDepth 1000000 in
theorem plays_reduce (n m : Int) (s t u : ByteArray) (w : World) (hs : s.size ≤ maxLen) (ht : t.size ≤ maxLen) (hu : u.size ≤ maxLen) :
    Calls Tryz.prog 6 #[.agg #[.int .i64 6, .int .i64 n, .int .i64 m, .string s, .string t, .string u]] w fun e w' => e = .returned (.bool true) ∧ Below w.heap.size w w' := by
  have HRT := hide (fun w => refReduced_true (s := s) (t := t) (c := u) w hs ht hu n)
  have HRA := hide (fun w => reduce_any (s := s) (t := t) (c := u) w hs ht hu n)
  unfold OutRd at HRA
  generalize rdc s t u n = R at *
  obtain ⟨way, a, y, z⟩ := R
  simp only at HRT HRA
  go_enter Tryz.func6, Tryz.ntmps6
  go_wp2_with fail
  refine (unhide HRA _).mono ?_
  rintro e w1 ⟨rfl, hb1⟩
  clear HRA
  have hz := hb1.size
  have hlt : w.heap.size < w1.heap.size := by simp at hz; omega
  have q1 : w1.cell? ⟨w.heap.size, 1, none⟩ = some (.int .i64 n) := (hb1.cell (p := ⟨w.heap.size, 1, none⟩) (by simp)).trans (by rw [World.cell?_alloc_new]; rfl)
  have q3 : w1.cell? ⟨w.heap.size, 3, none⟩ = some (.string s) := (hb1.cell (p := ⟨w.heap.size, 3, none⟩) (by simp)).trans (by rw [World.cell?_alloc_new]; rfl)
  have q4 : w1.cell? ⟨w.heap.size, 4, none⟩ = some (.string t) := (hb1.cell (p := ⟨w.heap.size, 4, none⟩) (by simp)).trans (by rw [World.cell?_alloc_new]; rfl)
  have q5 : w1.cell? ⟨w.heap.size, 5, none⟩ = some (.string u) := (hb1.cell (p := ⟨w.heap.size, 5, none⟩) (by simp)).trans (by rw [World.cell?_alloc_new]; rfl)
  have HB : Hid (Below w.heap.size w w1) := hide (((Below.refl _ _).alloc (Nat.le_refl _) _).trans (hb1.mono (by simp)))
  clear hb1 hz
  go_wp2_with fail
  go_region_held (fun w' => w'.cell? ⟨w.heap.size, 1, none⟩ = some (.int .i64 n) ∧ w'.cell? ⟨w.heap.size, 3, none⟩ = some (.string s) ∧ w'.cell? ⟨w.heap.size, 4, none⟩ = some (.string t) ∧ w'.cell? ⟨w.heap.size, 5, none⟩ = some (.string u)) (first | exact ⟨q1, q3, q4, q5⟩ | exact ⟨(hb2.cell (p := ⟨w.heap.size, 1, none⟩) hlt).trans q1, (hb2.cell (p := ⟨w.heap.size, 3, none⟩) hlt).trans q3, (hb2.cell (p := ⟨w.heap.size, 4, none⟩) hlt).trans q4, (hb2.cell (p := ⟨w.heap.size, 5, none⟩) hlt).trans q5⟩) (first
    | (go_at_call 15; refine (num6_any _ _).mono ?_; rintro e w' ⟨rfl, rfl⟩)
    | (go_at_call 20; refine (unhide HRT _).mono ?_; rintro e w2 ⟨rfl, hb2⟩))
  go_wp2
  go_ret
  refine ⟨rfl, ?_⟩
  exact (unhide HB).trans (Below.trans ((Below.refl _ _).drew) (hb2.mono (unhide HB).size))

set_option maxHeartbeats 1000000 in
set_option maxRecDepth 1000000 in
theorem heads_reduce (w : World) : Calls Tryz.prog 4 #[.int .i64 6] w fun e w' => e = .returned (.bool true) ∧ Below w.heap.size w w' := by
  have hsz : (⟨#[83, 61, 123, 97, 124, 66, 125, 91, 99, 93, 59, 66, 61, 60, 98, 62, 59]⟩ : ByteArray).size ≤ maxLen := by decide +kernel
  have htz : (⟨#[83, 40, 48, 123, 48, 97, 44, 49, 66, 40, 48, 60, 48, 98, 44, 48, 98, 62, 41, 125, 91, 48, 99, 93, 41]⟩ : ByteArray).size ≤ maxLen := by decide +kernel
  have huz : (⟨#[98]⟩ : ByteArray).size ≤ maxLen := by decide +kernel
  have HRA := hide (fun w => reduce_any w hsz htz huz 99)
  have hyes : rdc ⟨#[83, 61, 123, 97, 124, 66, 125, 91, 99, 93, 59, 66, 61, 60, 98, 62, 59]⟩ ⟨#[83, 40, 48, 123, 48, 97, 44, 49, 66, 40, 48, 60, 48, 98, 44, 48, 98, 62, 41, 125, 91, 48, 99, 93, 41]⟩ ⟨#[98]⟩ 99 = (strOfNums (wayL (hrT :: hrW.1)), hrW.2.1, hrW.2.2, 0) := rdc_yes hr_rfs
  obtain ⟨n, hn0, hnz, hne⟩ := way_last (t := hrT) hr_some
  rw [hr_last] at hnz hne
  have hwb : (strOfNums (wayL (hrT :: hrW.1))).size ≤ 100000 := by decide +kernel
  unfold OutRd at HRA
  rw [hyes, hr_why] at HRA
  generalize strOfNums (wayL (hrT :: hrW.1)) = W at *
  generalize hrW.2.1 = a at *
  have hzz : hrZ.size = 17 := rfl
  rw [hzz] at hnz
  have hne' : W.extract n W.size = ⟨#[83, 40, 48, 123, 49, 66, 40, 48, 60, 48, 98, 62, 41, 125, 91, 93, 41]⟩ := hne
  rw [hnz] at hne'
  have HNE := hide hne'
  clear hne hne' hyes
  go_enter Tryz.func4, Tryz.ntmps4
  go_wp2_with fail
  refine (unhide HRA _).mono ?_
  rintro e w1 ⟨rfl, hb1⟩
  have HB := hide hb1
  clear hb1 HRA
  have hsub : (W.size : Int) - 17 = (n : Int) := by omega
  go_wp2
  go_ret
  refine ⟨ret_bool ?_, unhide HB⟩
  rw [unhide HNE, ByteArray.toList_eq]
  rfl
end Go.Proofs.YtnfaiaoipeholaaGreatDoor

namespace Go.Proofs.YtnfaiaoipeholaaGreatDoor
open Go.ChangeShapes Go.WideShapes Go.ChangeAt Go.RowKit Go.Deep

theorem open_opsL {H : Type} {enc : TypeId × Value → H} {W : World} {v : Value} {d : DataW H} {p : List MemPlace}
    (h : DataW.Trod enc Tryz.prog W 0 (fun _ => true) true 22 v d p) (hv : ∃ a0 len cap, v = .slice a0 len cap) :
    (∃ ao cap, v = .slice ao 0 cap) ∨
    ∃ b off len cap, v = .slice (some ⟨b, off, none⟩) len cap ∧ (∃ el sp, d = .slice el sp ∧ el.length = len) ∧ b < W.heap.size ∧ ∀ i, i < len → ∃ kd n m s t u, OpAt W b (off + i * 6) kd n m s t u := by
  obtain ⟨a0, len0, cap0, rfl⟩ := hv
  obtain ⟨fuel, hf⟩ := h
  rcases open_slice Tryz.underlying22 hf with ⟨hcs, _⟩ | ⟨a, len, cap, m, n, D, Pl, hcs, _, hl, hm, hmm, hd, hx⟩
  · simp [Value.cells] at hcs
    exact .inl ⟨a0, cap0, by rw [hcs.2.1]⟩
  · simp [Value.cells] at hcs
    obtain ⟨rfl, rfl, rfl⟩ := hcs
    simp at hmm
    subst hmm
    by_cases h0 : len0 = 0
    · exact .inl ⟨_, _, by rw [h0]⟩
    · right
      rw [Tryz.cellsOp] at hx
      obtain ⟨cs, h1, h2⟩ := hx 0 (by omega)
      obtain ⟨b, o, kd, n1, m1, s, t, u, ha, hop⟩ := open_op h1 h2
      have ha' : a = ⟨b, o, none⟩ := by simpa [Addr.add] using ha
      subst ha'
      refine ⟨b, o, len0, _, rfl, ⟨_, _, congrArg Prod.fst hd, by simp⟩, World.block_lt_of_cell? _ _ hop.c0, fun i hi => ?_⟩
      obtain ⟨cs, h1, h2⟩ := hx i (by omega)
      obtain ⟨b', o', kd, n1, m1, s, t, u, ha, hop⟩ := open_op h1 h2
      rw [add_plain] at ha
      injection ha with e1 e2
      subst e1 e2
      exact ⟨kd, n1, m1, s, t, u, hop⟩

theorem OpAt.same {w : World} {b o : Nat} {kd n m kd' n' m' : Int} {s t u s' t' u' : ByteArray} (h : OpAt w b o kd n m s t u) (h' : OpAt w b o kd' n' m' s' t' u') : kd' = kd ∧ n' = n ∧ s' = s ∧ t' = t ∧ u' = u := by
  have e0 := h'.c0.symm.trans h.c0
  have e1 := h'.c1.symm.trans h.c1
  have e3 := h'.c3.symm.trans h.c3
  have e4 := h'.c4.symm.trans h.c4
  have e5 := h'.c5.symm.trans h.c5
  simp at e0 e1 e3 e4 e5
  exact ⟨e0, e1, e3, e4, e5⟩

set_option maxHeartbeats 1000000 in
set_option maxRecDepth 1000000 in
theorem plays_none (kd n m : Int) (s t u : ByteArray) (w : World) (h1 : kd ≠ 1) (h2 : kd ≠ 2) (h3 : kd ≠ 3) (h4 : kd ≠ 4) (h5 : kd ≠ 5) (h6 : kd ≠ 6) :
    Calls Tryz.prog 6 #[.agg #[.int .i64 kd, .int .i64 n, .int .i64 m, .string s, .string t, .string u]] w fun e w' => e = .returned (.bool true) ∧ Below w.heap.size w w' := by
  have e1 : (kd == 1) = false := by simp [h1]
  have e2 : (kd == 2) = false := by simp [h2]
  have e3 : (kd == 3) = false := by simp [h3]
  have e4 : (kd == 4) = false := by simp [h4]
  have e5 : (kd == 5) = false := by simp [h5]
  have e6 : (kd == 6) = false := by simp [h6]
  clear h1 h2 h3 h4 h5 h6
  go_enter Tryz.func6, Tryz.ntmps6
  go_wp2_with fail
  go_ret
  exact ⟨rfl, (Below.refl _ _).alloc (Nat.le_refl _) _⟩

theorem plays_all (kd n m : Int) (s t u : ByteArray) (w : World) (hs : s.size ≤ maxLen) (ht : t.size ≤ maxLen) (hu : u.size ≤ maxLen) :
    Calls Tryz.prog 6 #[.agg #[.int .i64 kd, .int .i64 n, .int .i64 m, .string s, .string t, .string u]] w fun e w' => e = .returned (.bool true) ∧ Below w.heap.size w w' := by
  by_cases h1 : kd = 1
  · subst h1; exact plays_check n m s t u w hs
  by_cases h2 : kd = 2
  · subst h2; exact plays_height n m s t u w hs ht
  by_cases h3 : kd = 3
  · subst h3; exact plays_make n m s t u w hs ht
  by_cases h4 : kd = 4
  · subst h4; exact plays_recall n m s t u w hs ht
  by_cases h5 : kd = 5
  · subst h5; exact plays_parse n m s t u w hs ht hu
  by_cases h6 : kd = 6
  · subst h6; exact plays_reduce n m s t u w hs ht hu
  exact plays_none kd n m s t u w h1 h2 h3 h4 h5 h6

theorem heads_all (k : Nat) (h1 : 1 ≤ k) (h6 : k ≤ 6) (w : World) : Calls Tryz.prog 4 #[.int .i64 k] w fun e w' => e = .returned (.bool true) ∧ Below w.heap.size w w' := by
  match k, h1, h6 with
  | 1, _, _ => exact heads_check w
  | 2, _, _ => exact heads_height w
  | 3, _, _ => exact heads_make w
  | 4, _, _ => exact heads_recall w
  | 5, _, _ => exact heads_parse w
  | 6, _, _ => exact heads_reduce w
end Go.Proofs.YtnfaiaoipeholaaGreatDoor

namespace Go.Proofs
open Go.Shelf
def Tryz.laysM171_ren : Go.Shelf.Ren := ⟨fun | 171 => 13 | 243 => 27 | 246 => 66 | 283 => 122 | 284 => 123 | 285 => 124 | 286 => 125 | 129 => 154 | 317 => 153 | 318 => 155 | 319 => 156 | 320 => 157 | 337 => 180 | 338 => 181 | n => n, fun | 3 => 3 | 9 => 9 | 2 => 2 | 4 => 4 | 171 => 147 | 0 => 0 | 53 => 148 | 37 => 83 | 5 => 5 | 173 => 151 | 212 => 168 | 51 => 169 | 20 => 20 | 213 => 170 | 46 => 171 | 232 => 181 | 233 => 182 | n => n, fun | 17 => 0 | 18 => 1 | 19 => 2 | n => n⟩
theorem Tryz.laysM171 : Go.Proofs.LaysM.n171 Tryz.prog Tryz.laysM171_ren := {
  mixed := by kernel_rfl
  f129 := Tryz.func154.trans (congrArg some (by kernel_rfl))
  f171 := Tryz.func13.trans (congrArg some (by kernel_rfl))
  f243 := Tryz.func27.trans (congrArg some (by kernel_rfl))
  f246 := Tryz.func66.trans (congrArg some (by kernel_rfl))
  f283 := Tryz.func122.trans (congrArg some (by kernel_rfl))
  f284 := Tryz.func123.trans (congrArg some (by kernel_rfl))
  f285 := Tryz.func124.trans (congrArg some (by kernel_rfl))
  f286 := Tryz.func125.trans (congrArg some (by kernel_rfl))
  f317 := Tryz.func153.trans (congrArg some (by kernel_rfl))
  f318 := Tryz.func155.trans (congrArg some (by kernel_rfl))
  f319 := Tryz.func156.trans (congrArg some (by kernel_rfl))
  f320 := Tryz.func157.trans (congrArg some (by kernel_rfl))
  f337 := Tryz.func180.trans (congrArg some (by kernel_rfl))
  f338 := Tryz.func181.trans (congrArg some (by kernel_rfl))
  t0 := Tryz.underlying0
  a0 := Tryz.isAgg0
  z0 := Tryz.sizeOf0
  v0 := Tryz.zeroValue0
  t2 := Tryz.underlying2
  a2 := Tryz.isAgg2
  z2 := Tryz.sizeOf2
  v2 := Tryz.zeroValue2
  t3 := Tryz.underlying3
  a3 := Tryz.isAgg3
  z3 := Tryz.sizeOf3
  v3 := Tryz.zeroValue3
  t4 := Tryz.underlying4
  a4 := Tryz.isAgg4
  z4 := Tryz.sizeOf4
  v4 := Tryz.zeroValue4
  t5 := Tryz.underlying5
  a5 := Tryz.isAgg5
  z5 := Tryz.sizeOf5
  v5 := Tryz.zeroValue5
  t9 := Tryz.underlying9
  a9 := Tryz.isAgg9
  z9 := Tryz.sizeOf9
  v9 := Tryz.zeroValue9
  t20 := Tryz.underlying20
  a20 := Tryz.isAgg20
  z20 := Tryz.sizeOf20
  v20 := Tryz.zeroValue20
  t37 := Tryz.underlying83
  a37 := Tryz.isAgg83
  z37 := Tryz.sizeOf83
  v37 := Tryz.zeroValue83
  t46 := Tryz.underlying171
  a46 := Tryz.isAgg171
  z46 := Tryz.sizeOf171
  v46 := Tryz.zeroValue171
  t51 := Tryz.underlying169
  a51 := Tryz.isAgg169
  z51 := Tryz.sizeOf169
  v51 := Tryz.zeroValue169
  t53 := Tryz.underlying148
  a53 := Tryz.isAgg148
  z53 := Tryz.sizeOf148
  v53 := Tryz.zeroValue148
  t171 := Tryz.underlying147
  a171 := Tryz.isAgg147
  z171 := Tryz.sizeOf147
  v171 := Tryz.zeroValue147
  t173 := Tryz.underlying151
  a173 := Tryz.isAgg151
  z173 := Tryz.sizeOf151
  v173 := Tryz.zeroValue151
  t212 := Tryz.underlying168
  a212 := Tryz.isAgg168
  z212 := Tryz.sizeOf168
  v212 := Tryz.zeroValue168
  t213 := Tryz.underlying170
  a213 := Tryz.isAgg170
  z213 := Tryz.sizeOf170
  t232 := Tryz.underlying181
  a232 := Tryz.isAgg181
  z232 := Tryz.sizeOf181
  v232 := Tryz.zeroValue181
  t233 := Tryz.underlying182
  a233 := Tryz.isAgg182
  z233 := Tryz.sizeOf182
  v233 := Tryz.zeroValue182
  g17 := by kernel_rfl
  g18 := by kernel_rfl
  g19 := by kernel_rfl
  i0 := by kernel_rfl
  i2 := by kernel_rfl
  i3 := by kernel_rfl
  i4 := by kernel_rfl
  i5 := by kernel_rfl
  i9 := by kernel_rfl
  i20 := by kernel_rfl
  i37 := by kernel_rfl
  i46 := by kernel_rfl
  i51 := by kernel_rfl
  i53 := by kernel_rfl
  i171 := by kernel_rfl
  i173 := by kernel_rfl
  i212 := by kernel_rfl
  i232 := by kernel_rfl
  i233 := by kernel_rfl
  m17 := by kernel_rfl
  m18 := by kernel_rfl
  m19 := by kernel_rfl }
end Go.Proofs

namespace Go.Proofs.YtnfaiaoipeholaaGreatDoor
open Go.RowKit
/-- the table that Itoa reads -/
def Tab10 (w : World) : Prop := Lib.TabIs Tryz.prog w (Rows.allRow.named.headD default) .u64 Lib.pow10Tab
theorem Tab10.on {w w' : World} (h : Tab10 w) (hb : Below w.heap.size w w') : Tab10 w' := Lib.tabBelow_of_tabIs h w' hb
def ita (n : Nat) : ByteArray := ⟨(Lib.itoa (n : Int)).toArray⟩
theorem itoa_any (n : Nat) (h : n ≤ 9223372036854775807) (w : World) (ht : Tab10 w) : Calls Tryz.prog 13 #[.int .i64 n] w fun e w' => e = .returned (.string (ita n)) ∧ Below w.heap.size w w' :=
  (Any.strconv_Itoa Tryz.laysM171 n (by omega) (by omega) w ht).mono fun e w' ⟨h1, k, os, h2⟩ => ⟨h1, h2 ▸ Lib.below_grow _ _ (Nat.le_refl _) _ _⟩
/-- what is free of a Reduce -/
def frR (s t u : ByteArray) (n : Int) : ByteArray := (rdc s t u n).1 ++ ⟨#[32]⟩ ++ ita (rdc s t u n).2.1 ++ ⟨#[32]⟩ ++ ita (rdc s t u n).2.2.1
/-- what is free of a step -/
def frT [Inhabited Chr] (kd n : Int) (s t u : ByteArray) : ByteArray := if kd = 5 then (prs s t).1 else if kd = 6 then frR s t u n else ⟨#[]⟩

theorem rdc_small (s t u : ByteArray) (n : Int) : (rdc s t u n).2.1 ≤ 9999 ∧ (rdc s t u n).2.2.1 ≤ 2 ∧ (rdc s t u n).1.size ≤ 1000000000 := by
  by_cases h : rfs s t u n = 0
  · obtain ⟨f, r, a, y, e, hr⟩ := rdc_ok h
    rw [e]
    have h1 := hr.ask
    have h2 := hr.le
    have h3 := hr.why
    refine ⟨by simp only; omega, by simp only; omega, ?_⟩
    have hz := hr.tree.le
    have h4 := (way_trees hr.gram r t f hr.tree hr.way).2.2.1
    have h5 := wayL_len (t :: r) 2000 (fun v hv => by obtain ⟨f', hf'⟩ := way_tree hr.gram r t f hr.tree hr.way v hv; exact hf'.le)
    have h6 : (t :: r).length * (2000 + 1) ≤ 2001 * 2001 := Nat.mul_le_mul (by simp; omega) (Nat.le_refl _)
    simp only
    rw [strOfNums_size]
    omega
  · rw [rdc_no h]; exact ⟨by simp, by simp, by simp⟩
theorem ita_size (n : Nat) (h : n ≤ 9999) : (ita n).size ≤ 21 := Lib.itoa_length_le n (by omega) (by omega)

set_option maxHeartbeats 1000000 in
set_option maxRecDepth 1000000 in
theorem free_none (kd n m : Int) (s t u : ByteArray) (w : World) (h5 : kd ≠ 5) (h6 : kd ≠ 6) :
    Calls Tryz.prog 5 #[.agg #[.int .i64 kd, .int .i64 n, .int .i64 m, .string s, .string t, .string u]] w fun e w' => e = .returned (.string ⟨#[]⟩) ∧ Below w.heap.size w w' := by
  have e5 : (kd == 5) = false := by simp [h5]
  have e6 : (kd == 6) = false := by simp [h6]
  clear h5 h6
  go_enter Tryz.func5, Tryz.ntmps5
  go_wp2_with fail
  go_ret
  exact ⟨rfl, (Below.refl _ _).alloc (Nat.le_refl _) _⟩

set_option maxHeartbeats 1000000 in
set_option maxRecDepth 1000000 in
theorem free_parse [Inhabited Chr] (n m : Int) (s t u : ByteArray) (w : World) (hs : s.size ≤ maxLen) (ht : t.size ≤ maxLen) :
    Calls Tryz.prog 5 #[.agg #[.int .i64 5, .int .i64 n, .int .i64 m, .string s, .string t, .string u]] w fun e w' => e = .returned (.string (prs s t).1) ∧ Below w.heap.size w w' := by
  go_enter Tryz.func5, Tryz.ntmps5
  go_wp2_with fail
  refine (parse_any _ hs ht).mono ?_
  rintro e w1 ⟨rfl, hb1, _⟩
  have HB : Hid (Below w.heap.size w w1) := hide (((Below.refl _ _).alloc (Nat.le_refl _) _).trans (hb1.mono (by simp)))
  clear hb1
  go_wp2
  go_ret
  exact ⟨rfl, unhide HB⟩

set_option maxHeartbeats 1000000 in
set_option maxRecDepth 1000000 in
theorem free_reduce (n m : Int) (s t u : ByteArray) (w : World) (hs : s.size ≤ maxLen) (ht : t.size ≤ maxLen) (hu : u.size ≤ maxLen) (hT : Hid (Tab10 w)) :
    Calls Tryz.prog 5 #[.agg #[.int .i64 6, .int .i64 n, .int .i64 m, .string s, .string t, .string u]] w fun e w' => e = .returned (.string (frR s t u n)) ∧ Below w.heap.size w w' := by
  have HRA := hide (fun w => reduce_any (s := s) (t := t) (c := u) w hs ht hu n)
  have hsm := rdc_small s t u n
  unfold OutRd at HRA
  unfold frR
  generalize rdc s t u n = R at *
  obtain ⟨way, a, y, z⟩ := R
  simp only at HRA hsm ⊢
  obtain ⟨ha, hy, hwz⟩ := hsm
  have hA := ita_size a (by omega)
  have hY := ita_size y (by omega)
  go_enter Tryz.func5, Tryz.ntmps5
  go_wp2_with fail
  refine (unhide HRA _).mono ?_
  rintro e w1 ⟨rfl, hb1⟩
  clear HRA
  have HB : Hid (Below w.heap.size w w1) := hide (((Below.refl _ _).alloc (Nat.le_refl _) _).trans (hb1.mono (by simp)))
  have HT1 : Hid (Tab10 w1) := hide ((unhide hT).on (unhide HB))
  clear hb1
  go_wp2_with fail
  refine (itoa_any a (by omega) _ (unhide HT1)).mono ?_
  rintro e w2 ⟨rfl, hb2⟩
  have HB2 : Hid (Below w.heap.size w w2) := hide ((unhide HB).trans (hb2.mono (unhide HB).size))
  have HT2 : Hid (Tab10 w2) := hide ((unhide HT1).on hb2)
  clear hb2 HB HT1
  go_wp2_with fail
  refine (itoa_any y (by omega) _ (unhide HT2)).mono ?_
  rintro e w3 ⟨rfl, hb3⟩
  have HB3 : Hid (Below w.heap.size w w3) := hide ((unhide HB2).trans (hb3.mono (unhide HB2).size))
  clear hb3 HB2 HT2
  go_wp2
  go_ret
  exact ⟨rfl, unhide HB3⟩

theorem free_all [Inhabited Chr] (kd n m : Int) (s t u : ByteArray) (w : World) (hs : s.size ≤ maxLen) (ht : t.size ≤ maxLen) (hu : u.size ≤ maxLen) (hT : Tab10 w) :
    Calls Tryz.prog 5 #[.agg #[.int .i64 kd, .int .i64 n, .int .i64 m, .string s, .string t, .string u]] w fun e w' => e = .returned (.string (frT kd n s t u)) ∧ Below w.heap.size w w' := by
  unfold frT
  by_cases h5 : kd = 5
  · subst h5; rw [if_pos rfl]; exact free_parse n m s t u w hs ht
  rw [if_neg h5]
  by_cases h6 : kd = 6
  · subst h6; rw [if_pos rfl]; exact free_reduce n m s t u w hs ht hu (hide hT)
  rw [if_neg h6]
  exact free_none kd n m s t u w h5 h6
end Go.Proofs.YtnfaiaoipeholaaGreatDoor

namespace Go.Proofs.YtnfaiaoipeholaaGreatDoor
open Go.RowKit
/-- what was said of the first steps -/
def SaidOf [Inhabited Chr] (w : World) (b off : Nat) (D : List ByteArray) : Prop := ∀ i kd n m s t u, i < D.length → OpAt w b (off + i * 6) kd n m s t u → D[i]? = some (frT kd n s t u)
theorem SaidOf.nil [Inhabited Chr] (w : World) (b off : Nat) : SaidOf w b off [] := fun i _ _ _ _ _ _ hi => absurd hi (by simp)
theorem SaidOf.push [Inhabited Chr] {w : World} {b off : Nat} {D : List ByteArray} (h : SaidOf w b off D) {kd n m : Int} {s t u : ByteArray} (ho : OpAt w b (off + D.length * 6) kd n m s t u) : SaidOf w b off (D ++ [frT kd n s t u]) := by
  intro i kd' n' m' s' t' u' hi ho'
  simp only [List.length_append, List.length_cons, List.length_nil] at hi
  by_cases hl : i < D.length
  · rw [List.getElem?_append_left hl]; exact h i kd' n' m' s' t' u' hl ho'
  · obtain rfl : i = D.length := by omega
    obtain ⟨rfl, rfl, rfl, rfl, rfl⟩ := ho.same ho'
    rw [List.getElem?_append_right (Nat.le_refl _)]; simp

set_option maxHeartbeats 1000000 in
set_option maxRecDepth 1000000 in
theorem all_any (b off len cap : Nat) (w : World) (hl : len * 16 ≤ 140737488351232) (hb : b < w.heap.size) (hops : ∀ i, i < len → ∃ kd n m s t u, OpAt w b (off + i * 6) kd n m s t u) (hT : Tab10 w) :
    Calls Tryz.prog 3 #[.slice (some ⟨b, off, none⟩) len cap] w fun e w' => e = .returned (.bool true) ∧ Below w.heap.size w w' := by
  obtain ⟨ch0⟩ := chr_some
  have : Inhabited Chr := ⟨ch0⟩
  obtain ⟨i1, hi1, hy0, hy1, hy2⟩ := info_parts Tryz.infoStr
  have HO := hide hops; clear hops
  have HT := hide hT; clear hT
  go_enter Tryz.func3, Tryz.ntmps3
  go_wp2_with fail
  go_loopw [3] (fun kv wr => ∃ k : Nat, 1 ≤ k ∧ k ≤ 7 ∧ kv = .int .i64 k ∧ Hid (Below w.heap.size w wr)) (fun kv _ => 7 - (intOf kv).toNat)
  case atStart => exact ⟨1, by omega, by omega, rfl, hide (Below.refl _ _)⟩
  case round =>
    obtain ⟨k, hk1, hk7, rfl, hB⟩ := hrel
    by_cases hlt : k ≤ 6
    · go_wp2_with (go_at_call 4; refine (heads_all k hk1 hlt _).mono ?_; rintro e w2 ⟨rfl, hb2⟩)
      go_roundw
      case rel => exact ⟨k + 1, by omega, by omega, by go_num, hide ((unhide hB).trans (hb2.mono (unhide hB).size))⟩
      case measure => simp [intOf]; omega
    · go_wp2_with fail
      go_loopw [5, 6] (fun sv iv wr => ∃ (k : Nat) (D : List ByteArray), k ≤ len ∧ Hid (D.length = k) ∧ iv = .int .i64 k ∧ wr.ownsRow w.heap.size 9 1 sv k (txs D) ∧ Hid (Below w.heap.size w wr) ∧ Hid (SaidOf w b off D)) (fun _ iv _ => len - (intOf iv).toNat)
      case atStart => exact ⟨0, [], Nat.zero_le _, hide rfl, rfl, World.ownsRow_nil _ w.heap.size 9 1, hB, hide (SaidOf.nil _ _ _)⟩
      case round =>
        clear hB hlt hk1 hk7
        obtain ⟨k, D, hk, hD, rfl, hown, hB, hS⟩ := hrel
        by_cases hlt : k < len
        · obtain ⟨kd, n, m, s, t, u, hop⟩ := unhide HO k hlt
          have HOP := hide hop
          obtain ⟨c0, c1, c2, c3, c4, c5, hs, ht, hu⟩ := hop.below (unhide hB) hb
          clear hop
          go_wp2_with fail
          refine (free_all kd n m s t u _ hs ht hu ((unhide HT).on (unhide hB))).mono ?_
          rintro e w2 ⟨rfl, hb2⟩
          have HB2 := hide ((unhide hB).trans (hb2.mono (unhide hB).size))
          have hown2 := owns_on hown hb2
          have HS2 : Hid (SaidOf w b off (D ++ [frT kd n s t u])) := hide ((unhide hS).push (by rw [unhide hD]; exact unhide HOP))
          generalize frT kd n s t u = x at *
          clear hb2 hown c0 c1 c2 c3 c4 c5 hB hS
          go_wp2_with (first | (at_builtin; refine wpList_append_lies _ rfl _ _ 24 rfl w.heap.size 9 i1 (.string ⟨#[]⟩) 1 16 Tryz.underlying24 hi1 hy0 hy1 hy2 rfl (by decide) _ _ _ rfl (hown2.alloc _) ⟨_, 0, none⟩ 1 1 [.string x] rfl rfl ?c1 ?c2 ?c3 ?c4 ?c5 ?c6 _ rfl ?_) | fail)
          case c1 => exact World.news_of_block (heap_alloc_new _ _)
          case c2 => intro u hu; simp at hu; subst hu; rfl
          case c3 => omega
          case c4 => unfold maxLen; omega
          case c5 => omega
          case c6 => have := (unhide HB2).size; simp; omega
          intro g1 cap1 w3 hown3 hg3 hb3 hlt3
          have HB3 : Hid (Below w.heap.size w w3) := hide (((unhide HB2).alloc (unhide HB2).size _).grown hg3 (by have := (unhide HB2).size; simp; omega) (fun j hj => (hown2.lt j hj).1))
          have HO3 : Hid (w3.ownsRow w.heap.size 9 1 (.slice (some ⟨g1, 0, none⟩) (k + 1) cap1) (k + 1) (txs (D ++ [x]))) := hide (by rw [txs_push]; exact hown3)
          obtain ⟨c0, c1, c2, c3, c4, c5, _, _, _⟩ := (unhide HOP).below (unhide HB3) hb
          clear hown3 hg3 hb3 hlt3 hown2 HB2
          go_wp2_with fail
          refine (plays_all kd n m s t u _ hs ht hu).mono ?_
          rintro e w4 ⟨rfl, hb4⟩
          have HB4 := hide ((unhide HB3).trans (hb4.mono (unhide HB3).size))
          have HO4 := hide (owns_on (unhide HO3) hb4)
          clear hb4 HO3 HB3 c0 c1 c2 c3 c4 c5
          go_wp2
          go_roundw
          case rel => exact ⟨k + 1, D ++ [x], by omega, hide (by simp [unhide hD]), by go_num, unhide HO4, HB4, HS2⟩
          case measure => simp [intOf]; omega
        · have hke : len = k := by omega
          subst hke
          have hown' := hown
          rw [← unhide hD] at hown'
          have HOW := hide hown'
          obtain ⟨ao, cap2, rfl, _⟩ := row_txt hown'
          clear hown hown'
          go_wp2_with fail
          go_loopw [9] (fun iv wr => ∃ j : Nat, iv = .int .i64 j ∧ j ≤ len ∧ Hid (wr.ownsRow w.heap.size 9 1 (.slice ao D.length cap2) D.length (txs D)) ∧ Hid (Below w.heap.size w wr)) (fun iv _ => len - (intOf iv).toNat)
          case atStart => exact ⟨0, rfl, Nat.zero_le _, HOW, hB⟩
          case round =>
            clear HOW hB
            obtain ⟨j, rfl, hj, hO, hB⟩ := hrel
            by_cases hjl : j < len
            · obtain ⟨kd, n, m, s, t, u, hop⟩ := unhide HO j hjl
              have hjD : j < D.length := by rw [unhide hD]; exact hjl
              have hx : D[j] = frT kd n s t u := by
                have := unhide hS j kd n m s t u hjD hop
                rw [List.getElem?_eq_getElem hjD] at this
                exact Option.some.inj this
              have HX := hide hx
              have HOP := hide hop
              obtain ⟨c0, c1, c2, c3, c4, c5, hs, ht, hu⟩ := hop.below (unhide hB) hb
              clear hop hx
              go_wp2_with fail
              refine (plays_all kd n m s t u _ hs ht hu).mono ?_
              rintro e w2 ⟨rfl, hb2⟩
              have HB2 := hide ((unhide hB).trans (hb2.mono (unhide hB).size))
              have HO2 := hide (owns_on (unhide hO) hb2)
              clear hb2 hO hB c0 c1 c2 c3 c4 c5
              obtain ⟨c0, c1, c2, c3, c4, c5, _, _, _⟩ := (unhide HOP).below (unhide HB2) hb
              go_wp2_with fail
              refine (free_all kd n m s t u _ hs ht hu ((unhide HT).on (unhide HB2))).mono ?_
              rintro e w3 ⟨rfl, hb3⟩
              have HB3 := hide ((unhide HB2).trans (hb3.mono (unhide HB2).size))
              have hO3 := owns_on (unhide HO2) hb3
              have HO3 := hide hO3
              clear hb3 HO2 HB2 c0 c1 c2 c3 c4 c5
              obtain ⟨ao', cap', e1, hcs⟩ := row_txt hO3
              cases e1
              obtain ⟨g, rfl, hcap, cj⟩ := hcs j hjD
              rw [unhide HX] at cj
              generalize frT kd n s t u = x at *
              clear hO3 hcs HX
              go_wp2
              go_roundw
              case rel => exact ⟨j + 1, by go_num, by omega, HO3, HB3⟩
              case measure => simp [intOf]; omega
            · go_wp2
              go_ret
              exact ⟨rfl, unhide hB⟩

set_option maxHeartbeats 1000000 in
set_option maxRecDepth 1000000 in
theorem all_any0 (ao : Option Addr) (cap : Nat) (w : World) :
    Calls Tryz.prog 3 #[.slice ao 0 cap] w fun e w' => e = .returned (.bool true) ∧ Below w.heap.size w w' := by
  go_enter Tryz.func3, Tryz.ntmps3
  go_wp2_with fail
  go_loopw [3] (fun kv wr => ∃ k : Nat, 1 ≤ k ∧ k ≤ 7 ∧ kv = .int .i64 k ∧ Hid (Below w.heap.size w wr)) (fun kv _ => 7 - (intOf kv).toNat)
  case atStart => exact ⟨1, by omega, by omega, rfl, hide (Below.refl _ _)⟩
  case round =>
    obtain ⟨k, hk1, hk7, rfl, hB⟩ := hrel
    by_cases hlt : k ≤ 6
    · go_wp2_with (go_at_call 4; refine (heads_all k hk1 hlt _).mono ?_; rintro e w2 ⟨rfl, hb2⟩)
      go_roundw
      case rel => exact ⟨k + 1, by omega, by omega, by go_num, hide ((unhide hB).trans (hb2.mono (unhide hB).size))⟩
      case measure => simp [intOf]; omega
    · go_wp2_with fail
      refine wp_loop_rounds 1 ?_
      rw [rounds_succ]
      go_wp2_with fail
      refine wp_loop_rounds 1 ?_
      rw [rounds_succ]
      go_wp2_with fail
      go_ret
      exact ⟨rfl, unhide hB⟩
end Go.Proofs.YtnfaiaoipeholaaGreatDoor
