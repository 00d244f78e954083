/- The program's Check: what it answers. -/
import Derived.Test.YtnfaiaoipeholaaForm
namespace Go.Proofs.Ytnfaiaoipeholaa
open Go.RowKit

theorem new_reader (w : World) (t : TypeId) (cs : Array Value) (hcs : cs = #[.int .i64 0, .int .i64 0, .int .u8 0, .int .u8 0, .int .u8 0, .int .u8 0, .int .u8 0, .int .i64 0, .int .i64 0, .int .i64 0, .int .i64 0, .int .i64 0, .int .i64 0]) :
    RdS (w.alloc (.cells cs t)) w.heap.size 0 [] [] := by
  subst hcs
  refine ⟨fun _ => 0, fun _ => 0, ⟨?_, ?_, ?_, ?_, ?_⟩, by simp, by simp⟩
  · rw [World.cell?_alloc_new]; rfl
  · rw [World.cell?_alloc_new]; rfl
  · intro j hj; rw [World.cell?_alloc_new]
    match j, hj with
    | 0, _ => rfl
    | 1, _ => rfl
    | 2, _ => rfl
    | 3, _ => rfl
    | 4, _ => rfl
  · intro j hj; rw [World.cell?_alloc_new]
    match j, hj with
    | 0, _ => rfl
    | 1, _ => rfl
    | 2, _ => rfl
    | 3, _ => rfl
    | 4, _ => rfl
    | 5, _ => rfl
  · intro j hj; rw [World.frozen?_alloc_new]

set_option maxHeartbeats 400000 in
theorem checkForm_any (s : ByteArray) (w : World) (hs : s.size ≤ maxLen) :
    Calls Try.prog 27 #[.string s] w fun e w' => e = .returned (.tuple #[.int .i64 (fmF s s.size 0 0 [] []).1, .int .i64 (fmF s s.size 0 0 [] []).2]) ∧ Below w.heap.size w w' := by
  unfold maxLen at hs
  go_enter Try.func27, Try.ntmps27
  go_wp2
  go_loopw [5] (fun i wr => ∃ (k : Nat) (a : Int) (op al : List Int), k ≤ s.size ∧ i = .int .i64 k ∧ RdS wr w.heap.size a op al ∧ Inv a op al ∧ Below w.heap.size w wr ∧ Hid (fmF s s.size 0 0 [] [] = fmF s (s.size - k) k a op al)) (fun i _ => s.size - (intOf i).toNat)
  case atStart => exact ⟨0, 0, [], [], Nat.zero_le _, rfl, new_reader w _ _ rfl, Inv.start, (Below.refl _ _).alloc (Nat.le_refl _) _, hide rfl⟩
  case round =>
    obtain ⟨k, a, op, al, hk, rfl, hR, hI, hB, hr⟩ := hrel
    have HR := hide hR; clear hR
    have HI := hide hI; clear hI
    by_cases hlt : k < s.size
    · have H := hide (bt_at s k hlt)
      by_cases h0 : (mst (s[k].toNat : Int) a op al).1 = 0
      · have h0' : ((mst (s[k].toNat : Int) a op al).1 != 0) = false := by simp [h0]
        have h0h := hide h0; clear h0
        go_wp2_with (go_at_call 48; refine (read_any _ _ (unhide HR) (unhide HI)).mono ?_; rintro e w' ⟨rfl, hb', hr'⟩)
        go_roundw
        case rel => exact ⟨k + 1, _, _, _, by omega, by go_num, hr' (unhide h0h), (unhide HI).step (unhide h0h), hB.trans hb', hide ((unhide hr).trans (by rw [← unhide H]; exact fmF_good hlt (by rw [unhide H]; exact unhide h0h)))⟩
        case measure => simp [intOf]; omega
      · have h0' : ((mst (s[k].toNat : Int) a op al).1 != 0) = true := by simp [h0]
        have h0h := hide h0; clear h0
        go_wp2_with (go_at_call 48; refine (read_any _ _ (unhide HR) (unhide HI)).mono ?_; rintro e w' ⟨rfl, hb', hr'⟩)
        go_ret2
        exact ⟨by rw [unhide hr, fmF_bad hlt (by rw [unhide H]; exact unhide h0h), unhide H]; rfl, hB.trans hb'⟩
    · have hfe := fmF_end (a := a) (op := op) (al := al) hlt
      obtain ⟨cl, br, hrd, _⟩ := id (unhide HR)
      have c0 := hrd.wants
      by_cases hz : s.size = 0
      · have hz' : ((s.size : Int) == 0) = true := by simp [hz]
        rw [if_pos (.inr hz)] at hfe
        have hfe' := hide hfe; clear hfe hz
        go_wp2
        go_ret2
        exact ⟨by rw [unhide hr, unhide hfe']; rfl, hB⟩
      · have hz' : ((s.size : Int) == 0) = false := by rw [beq_eq_false_iff_ne]; omega
        by_cases ha : a = 0
        · rw [if_neg (by omega)] at hfe
          have hfe' := hide hfe; clear hfe
          have ha' : (a != 0) = false := by simp [ha]
          clear ha
          go_wp2
          go_ret2
          exact ⟨by rw [unhide hr, unhide hfe']; rfl, hB⟩
        · rw [if_pos (.inl ha)] at hfe
          have hfe' := hide hfe; clear hfe
          have ha' : (a != 0) = true := by simp [ha]
          go_wp2
          go_ret2
          exact ⟨by rw [unhide hr, unhide hfe']; rfl, hB⟩

set_option maxHeartbeats 400000 in
theorem rcheck_any (s : ByteArray) (w : World) (hs : s.size ≤ maxLen) :
    Calls Try.prog 21 #[.string s] w fun e w' => e = .returned (.tuple #[.int .i64 (chk s).1, .int .i64 (chk s).2]) ∧ Below w.heap.size w w' := by
  have hs' := hs
  unfold maxLen at hs'
  unfold chk
  by_cases hl : 300 < s.size
  · rw [if_pos hl]
    go_enter Try.func21, Try.ntmps21
    go_wp2
    go_ret2; exact ⟨rfl, Below.refl _ _⟩
  rw [if_neg hl]
  by_cases h1 : (fmF s s.size 0 0 [] []).1 = 0
  · rw [if_neg (by simp [h1])]
    have h1' : ((fmF s s.size 0 0 [] []).1 != 0) = false := by simp [h1]
    clear h1
    by_cases h2 : (twF s s.size 0).1 = 0
    · rw [if_neg (by simp [h2])]
      have h2' : ((twF s s.size 0).1 != 0) = false := by simp [h2]
      clear h2
      go_enter Try.func21, Try.ntmps21
      go_wp2_with (first | (go_at_call 27; refine (checkForm_any _ _ hs).mono ?_; rintro e w1 ⟨rfl, hb1⟩) | (go_at_call 28; refine (checkTwice_any _ _ hs).mono ?_; rintro e w2 ⟨rfl, rfl⟩) | (go_at_call 29; refine (checkNames_any _ _ hs).mono ?_; rintro e w3 ⟨rfl, rfl⟩))
      go_ret2; exact ⟨rfl, hb1⟩
    · rw [if_pos h2]
      have h2' : ((twF s s.size 0).1 != 0) = true := by simp [h2]
      clear h2
      go_enter Try.func21, Try.ntmps21
      go_wp2_with (first | (go_at_call 27; refine (checkForm_any _ _ hs).mono ?_; rintro e w1 ⟨rfl, hb1⟩) | (go_at_call 28; refine (checkTwice_any _ _ hs).mono ?_; rintro e w2 ⟨rfl, rfl⟩))
      go_ret2; exact ⟨rfl, hb1⟩
  · rw [if_pos h1]
    have h1' : ((fmF s s.size 0 0 [] []).1 != 0) = true := by simp [h1]
    clear h1
    go_enter Try.func21, Try.ntmps21
    go_wp2_with (first | (go_at_call 27; refine (checkForm_any _ _ hs).mono ?_; rintro e w1 ⟨rfl, hb1⟩))
    go_ret2; exact ⟨rfl, hb1⟩

set_option maxHeartbeats 400000 in
theorem check_any (s : ByteArray) (w : World) (hs : s.size ≤ maxLen) :
    Calls Try.prog 20 #[.string s] w fun e w' => e = .returned (.tuple #[.int .i64 (chk s).1, .int .i64 (chk s).2]) ∧ Below w.heap.size w w' := by
  go_enter Try.func20, Try.ntmps20
  go_wp2_with (go_at_call 21; refine (rcheck_any _ _ hs).mono ?_; rintro e w1 ⟨rfl, hb1⟩)
  go_ret2; exact ⟨rfl, hb1⟩
end Go.Proofs.Ytnfaiaoipeholaa
