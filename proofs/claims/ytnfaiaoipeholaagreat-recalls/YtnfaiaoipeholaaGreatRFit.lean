/- The reference: the alternatives that fit. -/
import Derived.Test.YtnfaiaoipeholaaGreatRLow
import Derived.Deep.AppendLies
namespace Go.Proofs.YtnfaiaoipeholaaGreat
open Go.RowKit

/-- the least height of the alternative with a number -/
def altAt (s : ByteArray) (nm : Nat → Int) (x k : Nat) : Int := altH s nm (low s nm) (fe s ((sts s x).getD k 0)).1
/-- the alternatives that fit, of the first so many -/
def fitK (s : ByteArray) (nm : Nat → Int) (x : Nat) (room : Int) (n : Nat) : List Nat := (List.range n).filter fun k => decide (altAt s nm x k ≤ room)
def fits (s : ByteArray) (nm : Nat → Int) (x : Nat) (room : Int) : List Nat := fitK s nm x room (sts s x).length
theorem fitK_yes {s : ByteArray} {nm : Nat → Int} {x : Nat} {room : Int} {n : Nat} (h : altAt s nm x n ≤ room) : fitK s nm x room (n + 1) = fitK s nm x room n ++ [n] := by
  unfold fitK; rw [List.range_succ, List.filter_append]; simp [h]
theorem fitK_no {s : ByteArray} {nm : Nat → Int} {x : Nat} {room : Int} {n : Nat} (h : ¬ altAt s nm x n ≤ room) : fitK s nm x room (n + 1) = fitK s nm x room n := by
  unfold fitK; rw [List.range_succ, List.filter_append]; simp [h]
theorem fitK_len (s : ByteArray) (nm : Nat → Int) (x : Nat) (room : Int) (n : Nat) : (fitK s nm x room n).length ≤ n := by
  have := List.length_filter_le (fun k => decide (altAt s nm x k ≤ room)) (List.range n); simpa [fitK] using this
theorem Tryz.infoInt2 : (Tryz.prog.info? 3).map (fun i => (i.zero, i.size, i.bytes)) = some (some (.int .i64 0), 1, 8) := by kernel_rfl

/-- a list of numbers as cells -/
def ints (l : List Nat) : List Value := l.map fun k : Nat => Value.int .i64 (k : Int)
theorem ints_push (l : List Nat) (k : Nat) : ints (l ++ [k]) = ints l ++ [.int .i64 (k : Int)] := by simp [ints]

/-- what fitting answers -/
def OutF (s : ByteArray) (nm : Nat → Int) (x : Nat) (room : Int) (w : World) (e : Ending) (w' : World) : Prop :=
  ∃ v, e = .returned v ∧ w'.ownsRow (w.heap.size + 1) 3 1 v (fits s nm x room).length (ints (fits s nm x room)) ∧ Below w.heap.size w w'

set_option maxHeartbeats 1000000 in
set_option maxRecDepth 1000000 in
theorem fitting_any {s : ByteArray} (hs : s.size ≤ 300) {nm : Nat → Int} (hnm : Nms nm) {B m p x : Nat} (room : Int) (w : World) (hB : B ≤ w.heap.size) (hE : EA w s (m + 1) (fun b => b < B) p x) :
    Calls Tryz.prog 152 #[.pointer (some ⟨p, 0, none⟩), .agg (nms nm).toArray, .int .i64 room] w fun e w' => OutF s nm x room w e w' := by
  have hA := alt_all hs hnm (B := B) m
  obtain ⟨hp, N, gv, cap, hN0, hN4, hcp, hgv, hNn, hall⟩ := hE
  have hlb := low_bd (s := s) hnm
  have hsts : (sts s x).length = N := by
    have h1 : (sts s x)[N]? = none := by rw [← sts_ap]; exact hNn
    have h2 : N ≤ (sts s x).length := by
      obtain ⟨a, _, h3, _⟩ := hall (N - 1) (by omega)
      rw [sts_ap] at h3
      have := (List.getElem?_eq_some_iff.1 h3).1
      omega
    have h3 := List.getElem?_eq_none_iff.1 h1
    omega
  have HS := hide hsts
  have HALL := hide hall
  have hpl : p < w.heap.size := Nat.lt_of_lt_of_le hp hB
  have hgl : gv < w.heap.size := Nat.lt_of_lt_of_le hgv hB
  obtain ⟨i1, hi1, hy0, hy1, hy2⟩ := info_parts Tryz.infoInt2
  clear hNn hall hsts
  go_enter Tryz.func152, Tryz.ntmps152
  go_wp2
  go_loopw [7, 8] (fun ov iv wr => ∃ k : Nat, iv = .int .i64 k ∧ k ≤ N ∧ wr.ownsRow (w.heap.size + 1) 3 1 ov (fitK s nm x room k).length (ints (fitK s nm x room k)) ∧ Below (w.heap.size + 1) (w.alloc (.cells (nms nm).toArray 61)) wr) (fun _ iv _ => 500 - (intOf iv).toNat)
  case atStart => exact ⟨0, rfl, Nat.zero_le _, World.ownsRow_nil (w.alloc (.cells (nms nm).toArray 61)) (w.heap.size + 1) 3 1, Below.refl _ _⟩
  case round =>
    obtain ⟨k, rfl, hk, hown, hb⟩ := hrel
    have hsz := hb.size
    have hsz' : w.heap.size < wr.heap.size := by have := hsz; simp at this; omega
    have hbw : Below w.heap.size w wr := ((Below.refl _ _).alloc (Nat.le_refl _) _).trans (hb.mono (by omega))
    have HRG := hide (range_below (range_alloc w (nms nm) _) (by simpa using hb) : wr.rangeAt w.heap.size 0 (nms nm))
    have HBW := hide hbw
    have HB := hide hb
    have HO := hide hown
    have d0 := (hbw.cell (p := ⟨p, 0, none⟩) hpl).trans hcp
    have hfl := fitK_len s nm x room k
    by_cases hkl : k < N
    · obtain ⟨a, va, hap, hca, hAA⟩ := unhide HALL k hkl
      rw [sts_ap] at hap
      have hka : (sts s x).getD k 0 = a := by rw [List.getD_eq_getElem?_getD, hap]; rfl
      clear hap
      have d1 := (hbw.cell (p := ⟨gv, k, none⟩) hgl).trans hca
      have hlen := fe_len s a
      have HMEM : Hid (∀ f ∈ (fe s a).1, isF s f = true) := hide (fun f hf => (fe_mem hf).1)
      have HWB := hide (Nat.le_trans hB hbw.size)
      have HAA := hide (hAA.frame (w' := wr) (S' := fun b => b < B) (sub' := EA wr s m (fun b => b < B)) (fun b hbb => hbw.block b (Nat.lt_of_lt_of_le hbb hB)) (fun _ h => h) (fun p x h => h.below hbw hB))
      obtain ⟨ao, ca, rfl, _⟩ := hAA
      have HAL : Hid (altH s nm (low s nm) (fe s a).1 = altAt s nm x k) := hide (by unfold altAt; rw [hka])
      clear hbw hb hown hka
      go_wp2
      have hu := Tryz.underlying61
      have hin : (Tryz.prog.info? 61).map (·.size) = some (nms nm).length := by rw [nms_len]; exact Tryz.infoArr
      have hnl := nms_len nm
      have hno := nms_one nm
      go_region_held (fun w' => Below wr.heap.size wr w' ∧ w'.cell? ⟨p, 0, none⟩ = some (.slice (some ⟨gv, 0, none⟩) N cap) ∧ w'.cell? ⟨gv, k, none⟩ = some (.slice ao (fe s a).1.length ca) ∧ w'.rangeAt w.heap.size 0 (nms nm)) (first | exact keepL ((Below.refl _ _).drew) d0 d1 (unhide HRG) | exact keepL (((Below.refl wr.heap.size wr).drew).trans hb2) d0 d1 (unhide HRG)) (first | (go_at_call 151; refine (hA _ (fe s a).1 _ ?_ ?_ (unhide HMEM) ?_).mono ?_; exact unhide HWB; omega; exact (unhide HAA).frame (fun _ _ => rfl) (fun _ h => h) (fun p x h => h.below ((Below.refl _ _).drew) (unhide HWB)); rw [unhide HAL]; rintro e w2 ⟨rfl, hb2⟩))
      have HB2 := hide hb2
      have hsz2 : wr.heap.size ≤ w2.heap.size := hb2.size
      have hown2 : w2.ownsRow (w.heap.size + 1) 3 1 u7 (fitK s nm x room k).length (ints (fitK s nm x room k)) := (unhide HO).kept (row := none) ⟨hb2.os, hb2.tape, hb2.output, hb2.size, fun k hk _ => hb2.block k hk⟩ (by cases hv : u7.ownBlock <;> simp)
      clear hu hin hnl hno hb2
      by_cases hle : altAt s nm x k ≤ room
      · have HLE := hide hle
        go_wp2_with (first | (at_builtin; refine wpList_append_lies _ rfl _ _ 25 rfl (w.heap.size + 1) 3 i1 (.int .i64 0) 1 8 Tryz.underlying25 hi1 hy0 hy1 hy2 rfl (by decide) _ _ _ rfl (hown2.alloc _) ⟨_, 0, none⟩ 1 1 [.int .i64 (k : Int)] rfl rfl ?c1 ?c2 ?c3 ?c4 ?c5 ?c6 _ rfl ?_) | go_in)
        case c1 => exact World.news_of_block (heap_alloc_new _ _)
        case c2 => intro u hu; simp at hu; subst hu; rfl
        case c3 => omega
        case c4 => unfold maxLen; omega
        case c5 => omega
        case c6 => simp; omega
        · intro g1 cap1 w3 hown3 hg3 hb3 hlt3
          have HO3 := hide hown3
          have HG3 := hide hg3
          clear hown3 hg3 hb3 hlt3
          go_wp2
          go_roundw
          case rel =>
            refine ⟨k + 1, by go_num, by omega, ?_, ?_⟩
            · rw [fitK_yes (unhide HLE), ints_push]; simpa using unhide HO3
            · exact ((((unhide HB).drew).trans ((unhide HB2).mono (by show w.heap.size + 1 ≤ wr.heap.size; omega))).alloc (by omega) _).grown (unhide HG3) (by simp; omega) (fun j hj => (hown2.lt j hj).1)
          case measure => simp [intOf]; omega
      · have HLE := hide hle
        go_wp2
        go_roundw
        case rel => exact ⟨k + 1, by go_num, by omega, by rw [fitK_no (unhide HLE)]; exact hown2, ((unhide HB).drew).trans ((unhide HB2).mono (by show w.heap.size + 1 ≤ wr.heap.size; omega))⟩
        case measure => simp [intOf]; omega
    · have hkN : k = N := by omega
      clear hbw hb hown
      go_wp2
      go_ret
      refine ⟨_, rfl, ?_, unhide HBW⟩
      unfold fits
      rw [unhide HS, ← hkN]
      exact unhide HO
end Go.Proofs.YtnfaiaoipeholaaGreat
