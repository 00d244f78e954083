/- RRecT RecallsPlays ParA ParD -/
import Derived.Test.YtnfaiaoipeholaaGreatDoorAa21
import Derived.Test.YtnfaiaoipeholaaGreatDoorAa08
import Derived.Test.YtnfaiaoipeholaaGreatDoorAa15
import Derived.Test.YtnfaiaoipeholaaGreatDoorAa01
import Derived.Test.YtnfaiaoipeholaaGreatDoorAa18
import Derived.Test.YtnfaiaoipeholaaGreatDoorAa09
namespace Go.Proofs.YtnfaiaoipeholaaGreatDoor
open Go.RowKit
theorem Tryz.builtRr (g : Nat) (nm : Nat → Int) (m : Int) (c : ByteArray) : Tryz.prog.built 70 [(0, .pointer (some ⟨g, 0, none⟩)), (1, .agg (nms nm).toArray), (2, .int .i64 m), (3, .string c)] = some (rms g nm m c).toArray := by kernel_rfl
theorem rwhole_parts {s t : ByteArray} {hh : Nat} (e : whole s t 0 = some hh) : t.size ≤ 2000 ∧ pF s t 0 (pE s t 0 (t.size + 1)) 0 0 = some (t.size, hh) := by
  unfold whole at e
  split at e
  · cases e
  · refine ⟨by omega, ?_⟩
    cases hq : pF s t 0 (pE s t 0 (t.size + 1)) 0 0 with
    | none => rw [hq] at e; cases e
    | some q =>
      obtain ⟨j, k⟩ := q
      rw [hq] at e
      simp only at e
      split at e
      · rename_i hj
        simp only [Option.some.injEq] at e
        rw [hj, e]
      · cases e

set_option maxHeartbeats 1000000 in
set_option maxRecDepth 1000000 in
theorem refRecall_ok {s t : ByteArray} (hk : (chk s).1 = 0) (h m hh : Nat) (w : World) (hs : s.size ≤ maxLen) (hw0 : whole s t 0 = some hh) (hl : 1 ≤ h ∧ h ≤ 9) (hm : 1 ≤ m ∧ m ≤ 5) (hhh : hh ≤ h) (hmx : (mx t : Int) ≤ m) :
    Calls Tryz.prog 18 #[.string s, .string t, .int .i64 h, .int .i64 m] w fun e w' => e = .returned (.tuple #[.string (strOfNums (told s t h m)), .int .i64 0]) ∧ Below w.heap.size w w' := by
  obtain ⟨ht, hpf⟩ := rwhole_parts hw0
  have htm : t.size ≤ maxLen := by unfold maxLen; omega
  have g := gram_of hk
  have ten := ten_chk hk
  have hgd : Good t m 0 t.size := (mx_le t (by omega)).1 hmx
  have v : Eq2 s t m := ⟨g, ten, ht, hm, hgd⟩
  have hN := start_name g
  have hF : isF s 0 = true := by unfold isF; rw [hN]; simp
  have hwm : whole s t m = some hh := by
    rcases whole_most (most := (m : Int)) (by omega) hF hw0 with ⟨e, _⟩ | ⟨_, p, _, p2, p3, p4⟩
    · exact e
    · have := hgd p (Nat.zero_le _) p2 p3; omega
  have hH := hgt_ref_some hk hw0
  have HH := hide hH
  have HWM := hide hwm
  have HV := hide v
  have HG := hide g
  have HPF := hide hpf
  have HFi := hide hF
  have HN := hide hN
  generalize hTT : told s t h m = TT
  have HTT := hide hTT
  obtain ⟨hl1, hl2⟩ := hl
  obtain ⟨hm1, hm2⟩ := hm
  have hcO : Hid (cO (bt s (0 : Nat)) = false) := hide (by
    have hv : 65 ≤ bt s (0 : Nat) ∧ bt s (0 : Nat) ≤ 90 := by simpa [cN] using hN
    cases e : cO (bt s (0 : Nat))
    · rfl
    · have := cO_vals e; omega)
  clear hTT hH hwm v ten hgd hpf hw0 hF hN hk
  go_enter Tryz.func18, Tryz.ntmps18
  go_wp2_with fail
  refine (refHeight_any _ _ _ hs htm).mono ?_
  rw [unhide HH]
  rintro e w1 ⟨rfl, hb1⟩
  go_wp2_with fail
  refine (read_gram _ (unhide HG) _).mono ?_
  rintro e w2 ⟨rfl, hG2, hb2⟩
  go_wp2_with fail
  refine (rwhole_any _ _ hG2 (Nat.le_refl _) (unhide HG).small htm (unhide HN)).mono ?_
  rw [unhide HWM]
  rintro e w3 ⟨rfl, hb3⟩
  simp only [rw_]
  have hG3 : Gr w3 s w3.heap.size w1.heap.size := by
    have h := hG2.below hb3 (Nat.le_refl _)
    refine ⟨Nat.lt_of_lt_of_le h.lt hb3.size, h.start, fun f hf => ?_, h.nils⟩
    obtain ⟨p, n, j, q1, q2, q3, q4⟩ := h.rules f hf
    exact ⟨p, n, j, q1, q2, q3, EA.frame (fun _ _ => rfl) (fun b hb => Nat.lt_of_lt_of_le hb hb3.size) n n p _ (Nat.le_refl _) q4⟩
  have hn0 : ¬ (hh : Int) < 0 := by omega
  have hn1 : (hh : Int) ≤ (h : Int) := by omega
  have hbel3 : Below w.heap.size w w3 := (hb1.trans (hb2.mono hb1.size)).trans (hb3.mono (Nat.le_trans hb1.size hb2.size))
  clear hb1 hb2 hb3 hG2
  go_wp2_with fail
  refine (lows_any (unhide HG).small _ hG3 (Nat.le_refl _)).mono ?_
  rintro e w4 ⟨rfl, hb4⟩
  have hG4 : Gr w4 s w4.heap.size w1.heap.size := by
    have h := hG3.below hb4 (Nat.le_refl _)
    refine ⟨Nat.lt_of_lt_of_le h.lt hb4.size, h.start, fun f hf => ?_, h.nils⟩
    obtain ⟨p, n, j, q1, q2, q3, q4⟩ := h.rules f hf
    exact ⟨p, n, j, q1, q2, q3, EA.frame (fun _ _ => rfl) (fun b hb => Nat.lt_of_lt_of_le hb hb4.size) n n p _ (Nat.le_refl _) q4⟩
  have k1 := Rm.start (c := t) (m := (m : Int)) 70 hG4
  have hbel : Below w.heap.size w w4 := hbel3.trans (hb4.mono hbel3.size)
  obtain ⟨MV, hMV⟩ : ∃ MV, MV = (rms w1.heap.size (lowsF s 27) m t).toArray := ⟨_, rfl⟩
  rw [← hMV] at k1
  generalize hGV : (nms (lowsF s 27)).toArray = GV
  have HBU : Hid (Tryz.prog.built 70 [(0, .pointer (some ⟨w1.heap.size, 0, none⟩)), (1, .agg GV), (2, .int .i64 m), (3, .string t)] = some MV) := hide (by rw [← hGV, hMV]; exact Tryz.builtRr _ _ _ _)
  have K1 := hide k1
  have HBEL := hide hbel
  have hst := hG4.start
  have hzz : w1.heap.size < w4.heap.size := hG4.lt
  clear hGV hMV hG3 hG4 hb4 k1 hbel hbel3
  go_wp2_with (first | (refine wpList_buildTo rfl 70 _ rfl _ rfl MV (by rw [Array.toList_map]; exact unhide HBU) ?_) | fail)
  have hB5 : Below w.heap.size w (w4.alloc (.cells MV 70)) := (unhide HBEL).alloc (unhide HBEL).size _
  have hlt5 : w4.heap.size < (w4.alloc (.cells MV 70)).heap.size := by simp
  have hw4 := (unhide HBEL).size
  generalize w4.alloc (.cells MV 70) = w5 at *
  generalize w4.heap.size = b at *
  refine (rrfac_any (unhide HV) (rrexpr_all (b := b) (B := b) (g := w1.heap.size) (unhide HV) (t.size + 1)) (h : Int) (.pointer none) 0 h 0 t.size hh [] _ (unhide K1) (.inl ⟨unhide hcO, rfl⟩) rfl hl2 (unhide HFi) (unhide HPF) hhh (by simp)).mono ?_
  rintro e w6 ⟨rfl, hk6, hb6, _⟩
  have hbel6 : Below w.heap.size w w6 := hB5.trans (hb6.below hw4 (by omega))
  have hk6' : Rm w6 b s t m b w1.heap.size t.size TT := by rw [← unhide HTT]; simpa [told] using hk6
  have c30 := hk6'.out
  have HB6 := hide hbel6
  clear hk6 hk6' hb6 hbel6
  go_wp2
  go_ret2
  exact ⟨rfl, unhide HB6⟩

set_option maxHeartbeats 400000 in
set_option maxRecDepth 1000000 in
theorem refRecall_any {s t : ByteArray} (h m : Int) (w : World) (hs : s.size ≤ maxLen) (ht : t.size ≤ maxLen) :
    Calls Tryz.prog 18 #[.string s, .string t, .int .i64 h, .int .i64 m] w fun e w' => e = .returned (.tuple #[.string (rcl s t h m).1, .int .i64 (rcl s t h m).2]) ∧ Below w.heap.size w w' := by
  by_cases he : (hgt s t).2 = 0
  case neg =>
    have e : rcl s t h m = (⟨#[]⟩, (hgt s t).2) := by unfold rcl; rw [if_pos he]
    rw [e]
    have he' : ((hgt s t).2 != 0) = true := by simp [he]
    generalize hH : hgt s t = HH at *
    have HHH := hide hH
    clear e he hH
    go_enter Tryz.func18, Tryz.ntmps18
    go_wp2_with fail
    refine (refHeight_any _ _ _ hs ht).mono ?_
    rw [unhide HHH]
    rintro e w1 ⟨rfl, hb1⟩
    go_wp2
    go_ret2
    exact ⟨rfl, hb1⟩
  case pos =>
    have hk : (chk s).1 = 0 := by
      by_cases e : (chk s).1 = 0
      · exact e
      · rw [hgt_ref_bad e] at he; exact absurd he e
    obtain ⟨hh, hw0⟩ : ∃ hh, whole s t 0 = some hh := by
      cases hw : whole s t 0 with
      | none => rw [hgt_ref_none hk hw] at he; simp at he
      | some hh => exact ⟨hh, rfl⟩
    have hH := hgt_ref_some hk hw0
    have e : rcl s t h m = if ¬ (1 ≤ h ∧ h ≤ 9 ∧ 1 ≤ m ∧ m ≤ 5) then (⟨#[]⟩, 9) else if h < (hh : Int) ∨ m < (mx t : Int) then (⟨#[]⟩, 10) else (strOfNums (told s t h.toNat m.toNat), 0) := by
      unfold rcl; rw [hH, if_neg (by simp)]
    rw [e]
    have ht2 := (rwhole_parts hw0).1
    by_cases hl : 1 ≤ h ∧ h ≤ 9 ∧ 1 ≤ m ∧ m ≤ 5
    · rw [if_neg (by simpa using hl)]
      obtain ⟨k, rfl⟩ : ∃ k : Nat, h = k := ⟨h.toNat, by omega⟩
      obtain ⟨j, rfl⟩ : ∃ j : Nat, m = j := ⟨m.toNat, by omega⟩
      by_cases hb : (k : Int) < (hh : Int) ∨ (j : Int) < (mx t : Int)
      · rw [if_pos hb]
        have g := gram_of hk
        have hN := start_name g
        have hF : isF s 0 = true := by unfold isF; rw [hN]; simp
        have HHH := hide hH
        have HG := hide g
        have HN := hide hN
        have hwm : whole s t j = none ∨ (whole s t j = some hh ∧ (k : Int) < (hh : Int)) := by
          rcases whole_most (most := (j : Int)) (by omega) hF hw0 with ⟨e1, e2⟩ | ⟨e1, _⟩
          · have := (mx_le t (most := (j : Int)) (by omega)).2 e2
            exact .inr ⟨e1, by omega⟩
          · exact .inl e1
        obtain ⟨hl1, hl2, hl3, hl4⟩ := hl
        rcases hwm with hwm | ⟨hwm, hgt⟩
        · have HWM := hide hwm
          clear e hw0 hH g hN hF hwm hb he hk
          go_enter Tryz.func18, Tryz.ntmps18
          go_wp2_with fail
          refine (refHeight_any _ _ _ hs ht).mono ?_
          rw [unhide HHH]
          rintro e w1 ⟨rfl, hb1⟩
          go_wp2_with fail
          refine (read_gram _ (unhide HG) _).mono ?_
          rintro e w2 ⟨rfl, hG2, hb2⟩
          go_wp2_with fail
          refine (rwhole_any _ _ hG2 (Nat.le_refl _) (unhide HG).small ht (unhide HN)).mono ?_
          rw [unhide HWM]
          rintro e w3 ⟨rfl, hb3⟩
          simp only [rw_]
          go_wp2
          go_ret2
          exact ⟨rfl, (hb1.trans (hb2.mono hb1.size)).trans (hb3.mono (Nat.le_trans hb1.size hb2.size))⟩
        · have HWM := hide hwm
          have hn0 : ¬ (hh : Int) < 0 := by omega
          clear e hw0 hH g hN hF hwm hb he hk
          go_enter Tryz.func18, Tryz.ntmps18
          go_wp2_with fail
          refine (refHeight_any _ _ _ hs ht).mono ?_
          rw [unhide HHH]
          rintro e w1 ⟨rfl, hb1⟩
          go_wp2_with fail
          refine (read_gram _ (unhide HG) _).mono ?_
          rintro e w2 ⟨rfl, hG2, hb2⟩
          go_wp2_with fail
          refine (rwhole_any _ _ hG2 (Nat.le_refl _) (unhide HG).small ht (unhide HN)).mono ?_
          rw [unhide HWM]
          rintro e w3 ⟨rfl, hb3⟩
          simp only [rw_]
          go_wp2
          go_ret2
          exact ⟨rfl, (hb1.trans (hb2.mono hb1.size)).trans (hb3.mono (Nat.le_trans hb1.size hb2.size))⟩
      · rw [if_neg hb]
        simp only [Int.toNat_natCast]
        exact refRecall_ok hk k j hh w hs hw0 (by omega) (by omega) (by omega) (by omega)
    · rw [if_pos hl]
      have HHH := hide hH
      clear e hw0 hH he hk
      go_enter Tryz.func18, Tryz.ntmps18
      go_wp2_with fail
      refine (refHeight_any _ _ _ hs ht).mono ?_
      rw [unhide HHH]
      rintro e w1 ⟨rfl, hb1⟩
      go_wp2_with fail
      all_goals first
        | (go_ret2; exact ⟨rfl, hb1⟩)
        | (exfalso; simp_all; omega)
end Go.Proofs.YtnfaiaoipeholaaGreatDoor

namespace Go.Proofs.YtnfaiaoipeholaaGreatDoor
open Go.RowKit

set_option maxHeartbeats 400000 in
theorem numR_any (x : Int) (w : World) : Calls Tryz.prog 15 #[.int .i64 x] w fun e w' => e = .returned (.int .i64 x) ∧ w' = w := by
  go_enter Tryz.func15, Tryz.ntmps15
  go_wp2
  go_ret; exact ⟨rfl, rfl⟩

set_option maxHeartbeats 400000 in
set_option maxRecDepth 1000000 in
theorem plays_recall (n m : Int) (s t u : ByteArray) (w : World) (hs : s.size ≤ maxLen) (ht : t.size ≤ maxLen) :
    Calls Tryz.prog 6 #[.agg #[.int .i64 4, .int .i64 n, .int .i64 m, .string s, .string t, .string u]] w fun e w' => e = .returned (.bool true) ∧ Below w.heap.size w w' := by
  generalize hR : rcl s t n m = R
  have HR := hide hR; clear hR
  go_enter Tryz.func6, Tryz.ntmps6
  go_wp2_with fail
  refine (recall_any _ _ _ hs ht).mono ?_
  rw [unhide HR]
  rintro e w1 ⟨rfl, hb1⟩
  obtain ⟨hc1, _⟩ := bcell' hb1
  have hz := hb1.size
  simp at hz
  go_wp2_with fail
  refine (refRecall_any _ _ _ hs ht).mono ?_
  rw [unhide HR]
  rintro e w2 ⟨rfl, hb2⟩
  go_wp2_with (go_at_call 15; refine (numR_any _ _).mono ?_; rintro e w' ⟨rfl, hw⟩; subst hw)
  go_ret
  refine ⟨rfl, ?_⟩
  exact (((Below.refl _ _).alloc (Nat.le_refl _) _).trans (hb1.mono (by simp))).trans (hb2.mono (by omega))

theorem head_recall : rcl ⟨#[83, 61, 123, 97, 124, 66, 125, 91, 99, 93, 59, 66, 61, 60, 98, 62, 59]⟩ ⟨#[83, 40, 48, 123, 48, 97, 44, 49, 66, 40, 48, 60, 48, 98, 44, 48, 98, 62, 41, 125, 91, 48, 99, 93, 41]⟩ 2 2 = (⟨#[50, 48, 49, 49, 49]⟩, 0) := by decide +kernel

set_option maxHeartbeats 400000 in
set_option maxRecDepth 1000000 in
theorem heads_recall (w : World) : Calls Tryz.prog 4 #[.int .i64 4] w fun e w' => e = .returned (.bool true) ∧ Below w.heap.size w w' := by
  have hsz : (⟨#[83, 61, 123, 97, 124, 66, 125, 91, 99, 93, 59, 66, 61, 60, 98, 62, 59]⟩ : ByteArray).size ≤ maxLen := by decide +kernel
  have htz : (⟨#[83, 40, 48, 123, 48, 97, 44, 49, 66, 40, 48, 60, 48, 98, 44, 48, 98, 62, 41, 125, 91, 48, 99, 93, 41]⟩ : ByteArray).size ≤ maxLen := by decide +kernel
  have hh := hide head_recall
  go_enter Tryz.func4, Tryz.ntmps4
  go_wp2_with fail
  refine (recall_any _ _ _ hsz htz).mono ?_
  rw [unhide hh]
  rintro e w1 ⟨rfl, hb1⟩
  go_wp2
  go_ret
  exact ⟨rfl, hb1⟩
end Go.Proofs.YtnfaiaoipeholaaGreatDoor

namespace Go.Proofs.YtnfaiaoipeholaaGreatDoor

/-- the first least of some numbers, and which -/
def bst (f : Nat → Nat) : Nat → Nat → Nat × Nat → Nat × Nat
  | 0, _, r => r
  | n + 1, k, r => bst f n (k + 1) (if f k < r.1 then (f k, k) else r)
theorem bst_init (f : Nat → Nat) : ∀ n k r, (bst f n k r).1 ≤ r.1
  | 0, k, r => Nat.le_refl _
  | n + 1, k, r => by
    have := bst_init f n (k + 1) (if f k < r.1 then (f k, k) else r)
    unfold bst
    refine Nat.le_trans this ?_
    split
    · simp only; omega
    · exact Nat.le_refl _
theorem bst_le (f : Nat → Nat) : ∀ n k r j, k ≤ j → j < k + n → (bst f n k r).1 ≤ f j
  | 0, k, r, j, h1, h2 => by omega
  | n + 1, k, r, j, h1, h2 => by
    unfold bst
    by_cases e : j = k
    · subst e
      refine Nat.le_trans (bst_init f n (j + 1) (if f j < r.1 then (f j, j) else r)) ?_
      split
      · exact Nat.le_refl _
      · omega
    · exact bst_le f n (k + 1) _ j (by omega) (by omega)
theorem bst_cases (f : Nat → Nat) : ∀ n k r, bst f n k r = r ∨ ∃ j, k ≤ j ∧ j < k + n ∧ bst f n k r = (f j, j) ∧ f j < r.1
  | 0, k, r => .inl rfl
  | n + 1, k, r => by
    unfold bst
    by_cases h : f k < r.1
    · rw [if_pos h]
      rcases bst_cases f n (k + 1) (f k, k) with e | ⟨j, h1, h2, h3, h4⟩
      · exact .inr ⟨k, by omega, by omega, e, h⟩
      · exact .inr ⟨j, by omega, by omega, h3, by simp at h4; omega⟩
    · rw [if_neg h]
      rcases bst_cases f n (k + 1) r with e | ⟨j, h1, h2, h3, h4⟩
      · exact .inl e
      · exact .inr ⟨j, by omega, by omega, h3, h4⟩
theorem bst_congr {f g : Nat → Nat} : ∀ n k r, (∀ j, k ≤ j → j < k + n → f j = g j) → bst f n k r = bst g n k r
  | 0, k, r, h => rfl
  | n + 1, k, r, h => by
    unfold bst; rw [h k (by omega) (by omega)]
    exact bst_congr n (k + 1) _ (fun j h1 h2 => h j (by omega) (by omega))
theorem bst_mono {f g : Nat → Nat} {n k : Nat} {r r' : Nat × Nat} (h : ∀ j, k ≤ j → j < k + n → f j ≤ g j) (hr : r.1 ≤ r'.1) : (bst f n k r).1 ≤ (bst g n k r').1 := by
  rcases bst_cases g n k r' with e | ⟨j, h1, h2, h3, h4⟩
  · rw [e]; exact Nat.le_trans (bst_init f n k r) hr
  · rw [h3]; exact Nat.le_trans (bst_le f n k r j h1 h2) (h j h1 h2)

/-- a table: place, from, to -/
abbrev Tb := Nat → Nat → Nat → Nat
def tbU (T : Tb) (p a b v : Nat) : Tb := fun p' a' b' => if p' = p ∧ a' = a ∧ b' = b then v else T p' a' b'
/-- where the expression begins that is in a factor -/
def wi (s : ByteArray) (f : Nat) : Nat := if cN (bt s f) = true then (rl s (bt s f) + 2).toNat else f + 1
/-- an expression begins here -/
def begs (s : ByteArray) (p : Nat) : Bool := bt s ((p : Int) - 1) == 61 || cO (bt s ((p : Int) - 1))
section
variable (s u : ByteArray)
/-- a factor's bytes -/
def fcC (X W : Tb) (f a b : Nat) : Nat :=
  if cL (bt s f) = true then (if b = a + 1 ∧ bt u a = bt s f then 1 else 2001)
  else if cN (bt s f) = true then X (wi s f) a b + 3
  else if (bt s f = 91 ∨ bt s f = 123) ∧ a = b then 2
  else if bt s f = 123 ∨ bt s f = 60 then W (wi s f) a b + 2
  else X (wi s f) a b + 2
/-- the factors' from a place on -/
def rsC (R X W : Tb) (p a b : Nat) : Nat × Nat :=
  if isF s p = true then bst (fun e => fcC s u X W p a e + R (bh s p) e b) (b + 1 - a) a (2001, b) else (if a = b then 0 else 2001, b)
/-- an expression's -/
def exC (R : Tb) (x a b : Nat) : Nat × Nat := bst (fun k => R ((sts s x).getD k 0) a b + 1) (sts s x).length 0 (2001, 0)
end
/-- a row's -/
def rwC (X W : Tb) (x a b : Nat) : Nat × Nat := bst (fun e => X x a e + 1 + W x e b) (b - (a + 1)) (a + 1) (X x a b, b)

section
variable {s u : ByteArray}
theorem fcC_mono {X X' W W' : Tb} {f a b : Nat} (hX : X (wi s f) a b ≤ X' (wi s f) a b) (hW : W (wi s f) a b ≤ W' (wi s f) a b) : fcC s u X W f a b ≤ fcC s u X' W' f a b := by
  unfold fcC
  split
  · exact Nat.le_refl _
  split
  · omega
  split
  · exact Nat.le_refl _
  split <;> omega
theorem rsC_mono {R R' X X' W W' : Tb} {p a b : Nat} (hR : ∀ p a b, R p a b ≤ R' p a b) (hX : ∀ p a b, X p a b ≤ X' p a b) (hW : ∀ p a b, W p a b ≤ W' p a b) : (rsC s u R X W p a b).1 ≤ (rsC s u R' X' W' p a b).1 := by
  unfold rsC; split
  · exact bst_mono (fun _ _ _ => Nat.add_le_add (fcC_mono (hX _ _ _) (hW _ _ _)) (hR _ _ _)) (Nat.le_refl _)
  · exact Nat.le_refl _
theorem exC_mono {R R' : Tb} {x a b : Nat} (hR : ∀ p a b, R p a b ≤ R' p a b) : (exC s R x a b).1 ≤ (exC s R' x a b).1 :=
  bst_mono (fun _ _ _ => Nat.add_le_add (hR _ _ _) (Nat.le_refl _)) (Nat.le_refl _)
theorem rwC_mono {X X' W W' : Tb} {x a b : Nat} (hX : ∀ p a b, X p a b ≤ X' p a b) (hW : ∀ p a b, W p a b ≤ W' p a b) : (rwC X W x a b).1 ≤ (rwC X' W' x a b).1 :=
  bst_mono (fun j _ _ => by have := hX x a j; have := hW x j b; omega) (hX _ _ _)
theorem rsC_cap {R X W : Tb} {p a b : Nat} : (rsC s u R X W p a b).1 ≤ 2001 := by
  unfold rsC; split
  · exact bst_init _ _ _ _
  · simp only; split <;> omega
theorem exC_cap {R : Tb} {x a b : Nat} : (exC s R x a b).1 ≤ 2001 := bst_init _ _ _ _
theorem rwC_cap {X W : Tb} {x a b : Nat} : (rwC X W x a b).1 ≤ X x a b := bst_init _ _ _ _

/-- over a span nothing gets shorter, and nothing is too short -/
structure FixAt (s u : ByteArray) (R X W : Tb) (a b : Nat) : Prop where
  rest : ∀ p, p < s.size → R p a b = (rsC s u R X W p a b).1
  expr : ∀ p, p < s.size → begs s p = true → X p a b = (exC s R p a b).1
  row : ∀ p, p < s.size → begs s p = true → W p a b = (rwC X W p a b).1
/-- tables of numbers that are not too great, with nothing outside -/
structure Nrm (s u : ByteArray) (R X W : Tb) : Prop where
  cR : ∀ p a b, R p a b ≤ 2001
  cX : ∀ p a b, X p a b ≤ 2001
  cW : ∀ p a b, W p a b ≤ 2001
  oR : ∀ p a b, ¬ (p < s.size ∧ a ≤ b ∧ b ≤ u.size) → R p a b = 2001
  oX : ∀ p a b, ¬ (p < s.size ∧ a ≤ b ∧ b ≤ u.size ∧ begs s p = true) → X p a b = 2001
  oW : ∀ p a b, ¬ (p < s.size ∧ a ≤ b ∧ b ≤ u.size ∧ begs s p = true) → W p a b = 2001
/-- the whole chart -/
structure Fix (s u : ByteArray) (R X W : Tb) : Prop extends Nrm s u R X W where
  fix : ∀ a b, a ≤ b → b ≤ u.size → FixAt s u R X W a b

/-- what stands behind a factor lies in the grammar -/
structure Ins (s : ByteArray) : Prop where
  beh : ∀ f, isF s f = true → bh s f < s.size
  nxt : ∀ f, isF s f = true → f + 1 < s.size
  bar : ∀ f : Nat, bt s f = 124 → f + 1 < s.size
  few : ∀ x : Nat, begs s x = true → (sts s x).length ≤ 10
theorem gd_lt {n i d : Nat} (h : good s n i d) : i < s.size := by
  cases n with
  | zero => exact absurd h (by simp [good])
  | succ n =>
    apply bt_lt
    intro e
    unfold good at h
    rw [e] at h
    revert h
    simp [cL, cN, cO, cC, cX]
theorem good_ins {n f d : Nat} (h : good s n f d) (hf : isF s f = true) : bh s f < s.size ∧ f + 1 < s.size := by
  have hlt := isF_lt hf
  cases n with
  | zero => exact absurd h (by simp [good])
  | succ n =>
  rcases h with ⟨hc, hg⟩ | ⟨hc, hg⟩ | ⟨hc, d', hd, hg⟩ | ⟨hc, _⟩
  · have h1 := gd_lt hg
    obtain ⟨n1, n2⟩ := plain_not hc
    have h2 : (cL (bt s f) || cN (bt s f)) = true := by simpa [isF, n1] using hf
    rw [bh_plain hlt h2]; omega
  · have h1 := gd_lt hg
    rw [bh_open hg hc]
    obtain ⟨_, _, _, ⟨m, _, h4⟩, _⟩ := inner s n (f + 1) d hg
    exact ⟨gd_lt h4, h1⟩
  · obtain ⟨n1, n2, n3, n4⟩ := close_not hc
    simp [isF, n1, n2, n3] at hf
  · rw [isF, hc] at hf; exact absurd hf (by decide)
theorem good_bar {n f d : Nat} (h : good s n f d) (hf : bt s f = 124) : f + 1 < s.size := by
  cases n with
  | zero => exact absurd h (by simp [good])
  | succ n =>
  rcases h with ⟨hc, hg⟩ | ⟨hc, hg⟩ | ⟨hc, d', hd, hg⟩ | ⟨hc, _⟩
  · exact gd_lt hg
  · exact gd_lt hg
  · exact gd_lt hg
  · omega
theorem bar_of (s : ByteArray) : ∀ n k a op al, n = s.size - k → Inv a op al → (fmF s n k a op al).1 = 0 → ∀ f : Nat, k ≤ f → bt s f = 124 → f + 1 < s.size
  | 0, k, a, op, al, hn, hi, h, f, hf, hc => by
    have := bt_lt (s := s) (p := f) (by omega); omega
  | n + 1, k, a, op, al, hn, hi, h, f, hf, hc => by
    by_cases h0 : (mst (bt s k) a op al).1 = 0
    case neg => exfalso; unfold fmF at h; rw [if_pos h0] at h; exact h0 h
    have hh := h
    have hf' : fmF s (n + 1) k a op al = fmF s n (k + 1) (mst (bt s k) a op al).2.1 (mst (bt s k) a op al).2.2.1 (mst (bt s k) a op al).2.2.2 := by
      conv => lhs; unfold fmF
      rw [if_neg (by simp [h0])]
    rw [hf'] at h
    have hi' := hi.step h0
    by_cases e : f = k
    · subst e
      have ha : a = 0 ∨ a = 1 ∨ a = 2 := by have := hi.1; have := hi.2.1; omega
      rcases ha with rfl | rfl | rfl
      · rw [mst_name, hc] at h0; simp [cN] at h0
      · rw [mst_eq, hc] at h0; simp at h0
      · exact good_bar (good_of s (n + 1) f op al hn hi hh) hc
    · exact bar_of s n (k + 1) _ _ _ (by omega) hi' h f (by omega) hc
theorem ins_of (s : ByteArray) : ∀ n k a op al, n = s.size - k → Inv a op al → (fmF s n k a op al).1 = 0 → ∀ f : Nat, k ≤ f → isF s f = true → bh s f < s.size ∧ f + 1 < s.size
  | 0, k, a, op, al, hn, hi, h, f, hf, hc => by
    have := isF_lt hc; omega
  | n + 1, k, a, op, al, hn, hi, h, f, hf, hc => by
    by_cases h0 : (mst (bt s k) a op al).1 = 0
    case neg => exfalso; unfold fmF at h; rw [if_pos h0] at h; exact h0 h
    have hh := h
    have hf' : fmF s (n + 1) k a op al = fmF s n (k + 1) (mst (bt s k) a op al).2.1 (mst (bt s k) a op al).2.2.1 (mst (bt s k) a op al).2.2.2 := by
      conv => lhs; unfold fmF
      rw [if_neg (by simp [h0])]
    rw [hf'] at h
    have hi' := hi.step h0
    by_cases e : f = k
    · subst e
      have hlt := isF_lt hc
      have ha : a = 0 ∨ a = 1 ∨ a = 2 := by have := hi.1; have := hi.2.1; omega
      rcases ha with rfl | rfl | rfl
      · rw [mst_name] at h h0 hi'
        by_cases hn' : cN (bt s f) = true
        · rw [if_pos hn'] at h hi'
          have h2 : (cL (bt s f) || cN (bt s f)) = true := by simp [hn']
          rw [bh_plain hlt h2]
          simp only at h
          have : f + 1 < s.size := by
            by_cases hl : f + 1 < s.size
            · exact hl
            · have : n = 0 := by omega
              subst this
              unfold fmF at h; rw [if_pos (by simp)] at h; simp at h
          omega
        · rw [if_neg hn'] at h0; simp at h0
      · rw [mst_eq] at h0
        by_cases h61 : bt s f = 61
        · rw [isF, h61] at hc; exact absurd hc (by decide)
        · rw [if_neg h61] at h0; simp at h0
      · exact good_ins (good_of s (n + 1) f op al hn hi hh) hc
    · exact ins_of s n (k + 1) _ _ _ (by omega) hi' h f (by omega) hc
theorem ins_chk (h : (chk s).1 = 0) : Ins s := by
  unfold chk at h
  by_cases h1 : 300 < s.size
  · rw [if_pos h1] at h; simp at h
  rw [if_neg h1] at h
  by_cases h2 : (fmF s s.size 0 0 [] []).1 = 0
  case neg => rw [if_pos h2] at h; exact absurd h h2
  have h3 := fun f hf => ins_of s s.size 0 0 [] [] (by omega) Inv.start h2 f (by omega) hf
  refine ⟨fun f hf => (h3 f hf).1, fun f hf => (h3 f hf).2, fun f hf => bar_of s s.size 0 0 [] [] (by omega) Inv.start h2 f (by omega) hf, fun x hx => ?_⟩
  cases x with
  | zero => exact absurd hx (by unfold begs; rw [bt_out s _ (by omega)]; decide)
  | succ f =>
    refine ten_of s s.size 0 0 [] [] (by omega) Inv.start h2 f (by omega) ?_
    unfold begs at hx
    rw [show ((f + 1 : Nat) : Int) - 1 = (f : Int) by omega] at hx
    have : bt s f = 61 ∨ cO (bt s f) = true := by simpa using hx
    exact this.symm
/-- an alternative of what begins in the grammar begins in it -/
theorem ap_ins (ins : Ins s) : ∀ {k x a : Nat}, x < s.size → ap s k x = some a → a < s.size
  | 0, x, a, hx, h => by simp [ap] at h; omega
  | k + 1, x, a, hx, h => by
    unfold ap at h; split at h
    · rename_i e
      exact ap_ins ins (ins.bar _ e) h
    · simp at h
/-- what is in a factor begins an expression -/
theorem wi_begs (g : Gram s) (i : Ins s) {f : Nat} (hf : isF s f = true) (hl : cL (bt s f) = false) : wi s f < s.size ∧ begs s (wi s f) = true := by
  unfold wi
  by_cases hn : cN (bt s f) = true
  · rw [if_pos hn]
    obtain ⟨j, h1, h2, h3, h4⟩ := g.name f hn
    obtain ⟨_, h61, h5, n, hg⟩ := g.rule j h2 h3
    rw [h1, show ((j : Int) + 2).toNat = j + 2 by omega]
    refine ⟨gd_lt hg, ?_⟩
    unfold begs
    rw [show ((j + 2 : Nat) : Int) - 1 = ((j + 1 : Nat) : Int) by omega, h61]; rfl
  · rw [if_neg hn]
    refine ⟨i.nxt f hf, ?_⟩
    have ho : cO (bt s f) = true := by simpa [isF, hl, hn] using hf
    unfold begs
    rw [show ((f + 1 : Nat) : Int) - 1 = (f : Int) by omega, ho]; simp
theorem wi_open {f : Nat} (hn : cN (bt s f) = false) : wi s f = f + 1 := by simp [wi, hn]
end
end Go.Proofs.YtnfaiaoipeholaaGreatDoor

namespace Go.Proofs.YtnfaiaoipeholaaGreatDoor
section
variable {s u : ByteArray} {R X W R' X' W' : Tb} {a b : Nat}
theorem tbU_same (T : Tb) (p a b v : Nat) : tbU T p a b v p a b = v := by simp [tbU]
theorem tbU_place {T : Tb} {p a b v q : Nat} (h : q ≠ p) (a' b' : Nat) : tbU T p a b v q a' b' = T q a' b' := by simp [tbU, h]
theorem tbU_span {T : Tb} {p a b v a' b' : Nat} (h : ¬ (a' = a ∧ b' = b)) (q : Nat) : tbU T p a b v q a' b' = T q a' b' := by
  unfold tbU; rw [if_neg (fun e => h e.2)]
theorem tbU_le {T : Tb} {p a b v : Nat} (h : v ≤ T p a b) (q a' b' : Nat) : tbU T p a b v q a' b' ≤ T q a' b' := by
  unfold tbU; split
  · rename_i e; obtain ⟨rfl, rfl, rfl⟩ := e; exact h
  · exact Nat.le_refl _
theorem tbU_id {T : Tb} {p a b v : Nat} (h : v = T p a b) : tbU T p a b v = T := by
  funext q a' b'
  unfold tbU; split
  · rename_i e; obtain ⟨rfl, rfl, rfl⟩ := e; exact h
  · rfl
/-- nothing over the span is shorter than what it may be put together from -/
structure Sound (s u : ByteArray) (R X W : Tb) (a b : Nat) : Prop where
  r : ∀ p, p < s.size → (rsC s u R X W p a b).1 ≤ R p a b
  x : ∀ p, p < s.size → begs s p = true → (exC s R p a b).1 ≤ X p a b
  w : ∀ p, p < s.size → begs s p = true → (rwC X W p a b).1 ≤ W p a b
/-- from a place on nothing gets shorter -/
structure Don (s u : ByteArray) (R X W : Tb) (a b q : Nat) : Prop where
  r : ∀ p, q ≤ p → p < s.size → R p a b = (rsC s u R X W p a b).1
  x : ∀ p, q ≤ p → p < s.size → begs s p = true → X p a b = (exC s R p a b).1
  w : ∀ p, q ≤ p → p < s.size → begs s p = true → W p a b = (rwC X W p a b).1
theorem Don.fix (h : Don s u R X W a b 0) : FixAt s u R X W a b := ⟨fun p hp => h.r p (Nat.zero_le _) hp, fun p hp hb => h.x p (Nat.zero_le _) hp hb, fun p hp hb => h.w p (Nat.zero_le _) hp hb⟩
theorem Don.end_ : Don s u R X W a b s.size := ⟨fun p h1 h2 => by omega, fun p h1 h2 => by omega, fun p h1 h2 => by omega⟩

/-- a table that tells the same or less -/
def Lwr (T T' : Tb) (a b : Nat) : Prop := (∀ p a' b', T' p a' b' ≤ T p a' b') ∧ ∀ p a' b', ¬ (a' = a ∧ b' = b) → T' p a' b' = T p a' b'
theorem Lwr.refl (T : Tb) (a b : Nat) : Lwr T T a b := ⟨fun _ _ _ => Nat.le_refl _, fun _ _ _ _ => rfl⟩
theorem Lwr.trans {T T' T2 : Tb} (h : Lwr T T' a b) (h2 : Lwr T' T2 a b) : Lwr T T2 a b := ⟨fun p a' b' => Nat.le_trans (h2.1 p a' b') (h.1 p a' b'), fun p a' b' e => (h2.2 p a' b' e).trans (h.2 p a' b' e)⟩
theorem Lwr.up {T : Tb} {p v : Nat} (h : v ≤ T p a b) : Lwr T (tbU T p a b v) a b := ⟨tbU_le h, fun q _ _ e => tbU_span e q⟩

/-- a rest is put down -/
theorem Sound.setR (h : Sound s u R X W a b) {p : Nat} (hp : p < s.size) : Sound s u (tbU R p a b (rsC s u R X W p a b).1) X W a b := by
  have hl := tbU_le (h.r p hp)
  refine ⟨fun q hq => ?_, fun q hq hb => Nat.le_trans (exC_mono hl) (h.x q hq hb), h.w⟩
  have hm : (rsC s u (tbU R p a b (rsC s u R X W p a b).1) X W q a b).1 ≤ (rsC s u R X W q a b).1 := rsC_mono hl (fun _ _ _ => Nat.le_refl _) (fun _ _ _ => Nat.le_refl _)
  by_cases e : q = p
  · subst e; rw [tbU_same]; exact hm
  · rw [tbU_place e]; exact Nat.le_trans hm (h.r q hq)
theorem Sound.setX (h : Sound s u R X W a b) {p : Nat} (hp : p < s.size) (hb : begs s p = true) : Sound s u R (tbU X p a b (exC s R p a b).1) W a b := by
  have hl := tbU_le (h.x p hp hb)
  refine ⟨fun q hq => Nat.le_trans (rsC_mono (fun _ _ _ => Nat.le_refl _) hl (fun _ _ _ => Nat.le_refl _)) (h.r q hq), fun q hq hb => ?_, fun q hq hb => Nat.le_trans (rwC_mono hl (fun _ _ _ => Nat.le_refl _)) (h.w q hq hb)⟩
  by_cases e : q = p
  · subst e; rw [tbU_same]; exact Nat.le_refl _
  · rw [tbU_place e]; exact h.x q hq hb
theorem Sound.setW (h : Sound s u R X W a b) {p : Nat} (hp : p < s.size) (hb : begs s p = true) : Sound s u R X (tbU W p a b (rwC X W p a b).1) a b := by
  have hl := tbU_le (h.w p hp hb)
  refine ⟨fun q hq => Nat.le_trans (rsC_mono (fun _ _ _ => Nat.le_refl _) (fun _ _ _ => Nat.le_refl _) hl) (h.r q hq), h.x, fun q hq hb => ?_⟩
  have hm : (rwC X (tbU W p a b (rwC X W p a b).1) q a b).1 ≤ (rwC X W q a b).1 := rwC_mono (fun _ _ _ => Nat.le_refl _) hl
  by_cases e : q = p
  · subst e; rw [tbU_same]; exact hm
  · rw [tbU_place e]; exact Nat.le_trans hm (h.w q hq hb)
/-- what a pass leaves -/
theorem Don.setR {p : Nat} (h : Don s u R X W a b (p + 1)) (hns : begs s p = false) : Don s u (tbU R p a b (rsC s u R X W p a b).1) X W a b p := by
  have hr : ∀ q, p ≤ q → rsC s u (tbU R p a b (rsC s u R X W p a b).1) X W q a b = rsC s u R X W q a b := by
    intro q hq
    unfold rsC
    split
    · rename_i hf
      have := bh_bd hf
      exact bst_congr _ _ _ (fun j _ _ => by rw [tbU_place (by omega)])
    · rfl
  have hx : ∀ q, p < q → exC s (tbU R p a b (rsC s u R X W p a b).1) q a b = exC s R q a b := by
    intro q hq
    unfold exC
    refine bst_congr _ _ _ (fun j _ hj => ?_)
    rw [tbU_place]
    have := sts_bd (s := s) (x := q) (a := (sts s q).getD j 0) (by
      rw [List.getD_eq_getElem?_getD, List.getElem?_eq_getElem (by omega)]; simp)
    omega
  refine ⟨fun q h1 h2 => ?_, fun q h1 h2 h3 => ?_, fun q h1 h2 h3 => ?_⟩
  · rw [hr q h1]
    by_cases e : q = p
    · subst e; rw [tbU_same]
    · rw [tbU_place e]; exact h.r q (by omega) h2
  · have : q ≠ p := fun e => by subst e; rw [hns] at h3; cases h3
    rw [hx q (by omega)]; exact h.x q (by omega) h2 h3
  · have : q ≠ p := fun e => by subst e; rw [hns] at h3; cases h3
    exact h.w q (by omega) h2 h3
theorem Don.setRW {p : Nat} (h : Don s u R X W a b (p + 1)) (R1 : Tb) (hR1 : R1 = tbU R p a b (rsC s u R X W p a b).1) (hXp : X p a b = (exC s R1 p a b).1) : Don s u R1 X (tbU W p a b (rwC X W p a b).1) a b p := by
  have hr : ∀ q, p ≤ q → rsC s u R1 X (tbU W p a b (rwC X W p a b).1) q a b = rsC s u R X W q a b := by
    intro q hq
    subst hR1
    unfold rsC
    split
    · rename_i hf
      have := bh_bd hf
      refine bst_congr _ _ _ (fun j _ _ => ?_)
      rw [tbU_place (by omega)]
      congr 1
      unfold fcC
      by_cases h2 : cN (bt s q) = true
      · simp only [h2, if_true]
      · have hwi : wi s q = q + 1 := by simp [wi, h2]
        rw [hwi, tbU_place (T := W) (q := q + 1) (by omega)]
    · rfl
  have hx : ∀ q, p < q → exC s R1 q a b = exC s R q a b := by
    intro q hq
    subst hR1
    unfold exC
    refine bst_congr _ _ _ (fun j _ hj => ?_)
    rw [tbU_place]
    have := sts_bd (s := s) (x := q) (a := (sts s q).getD j 0) (by
      rw [List.getD_eq_getElem?_getD, List.getElem?_eq_getElem (by omega)]; simp)
    omega
  have hw : ∀ q, rwC X (tbU W p a b (rwC X W p a b).1) q a b = rwC X W q a b := by
    intro q
    conv => lhs; unfold rwC
    conv => rhs; unfold rwC
    exact bst_congr _ _ _ (fun j h1 _ => by rw [tbU_span (by omega)])
  refine ⟨fun q h1 h2 => ?_, fun q h1 h2 h3 => ?_, fun q h1 h2 h3 => ?_⟩
  · rw [hr q h1]
    by_cases e : q = p
    · subst e; rw [hR1, tbU_same]
    · rw [hR1, tbU_place e]; exact h.r q (by omega) h2
  · by_cases e : q = p
    · subst e; exact hXp
    · rw [hx q (by omega)]; exact h.x q (by omega) h2 h3
  · rw [hw q]
    by_cases e : q = p
    · subst e; rw [tbU_same]
    · rw [tbU_place e]; exact h.w q (by omega) h2 h3

/-- all that is reckoned over a span -/
def mu (s : ByteArray) (X : Tb) (a b : Nat) : Nat := ((List.range s.size).map fun p => X p a b).sum
theorem sum_le {f g : Nat → Nat} (h : ∀ p, f p ≤ g p) : ∀ n, ((List.range n).map f).sum ≤ ((List.range n).map g).sum
  | 0 => Nat.le_refl _
  | n + 1 => by
    have := sum_le h n; have := h n
    rw [List.range_succ, List.map_append, List.map_append, List.sum_append, List.sum_append]; simp; omega
theorem sum_lt {f g : Nat → Nat} (h : ∀ p, f p ≤ g p) {q : Nat} (hq : f q < g q) : ∀ n, q < n → ((List.range n).map f).sum < ((List.range n).map g).sum
  | 0, hn => by omega
  | n + 1, hn => by
    rw [List.range_succ, List.map_append, List.map_append, List.sum_append, List.sum_append]; simp
    by_cases e : q = n
    · subst e; have := sum_le h q; omega
    · have := sum_lt h hq n (by omega); have := h n; omega
theorem mu_le (h : Lwr X X' a b) : mu s X' a b ≤ mu s X a b := sum_le (fun p => h.1 p a b) _
theorem mu_lt (h : Lwr X X' a b) {p : Nat} (hp : p < s.size) (hv : X' p a b < X p a b) : mu s X' a b < mu s X a b := sum_lt (fun p => h.1 p a b) hv _ hp

/-- tables that are the same within a span -/
theorem FixAt.keep (h : FixAt s u R X W a b) (hR : ∀ p c d, a ≤ c → d ≤ b → c ≤ d → R' p c d = R p c d) (hX : ∀ p c d, a ≤ c → d ≤ b → c ≤ d → X' p c d = X p c d) (hW : ∀ p c d, a ≤ c → d ≤ b → c ≤ d → W' p c d = W p c d) (hab : a ≤ b) : FixAt s u R' X' W' a b := by
  refine ⟨fun p hp => ?_, fun p hp hb => ?_, fun p hp hb => ?_⟩
  · rw [hR p a b (Nat.le_refl _) (Nat.le_refl _) hab, h.rest p hp]
    unfold rsC
    split
    · refine congrArg Prod.fst (bst_congr _ _ _ (fun j h1 h2 => ?_))
      rw [hR _ j b h1 (Nat.le_refl _) (by omega)]
      congr 1
      unfold fcC
      rw [hX _ a j (Nat.le_refl _) (by omega) h1, hW _ a j (Nat.le_refl _) (by omega) h1]
    · rfl
  · rw [hX p a b (Nat.le_refl _) (Nat.le_refl _) hab, h.expr p hp hb]
    unfold exC
    exact congrArg Prod.fst (bst_congr _ _ _ (fun j h1 h2 => by rw [hR _ a b (Nat.le_refl _) (Nat.le_refl _) hab]))
  · rw [hW p a b (Nat.le_refl _) (Nat.le_refl _) hab, h.row p hp hb]
    unfold rwC
    rw [hX p a b (Nat.le_refl _) (Nat.le_refl _) hab]
    exact congrArg Prod.fst (bst_congr _ _ _ (fun j h1 h2 => by rw [hX _ a j (Nat.le_refl _) (by omega) (by omega), hW _ j b (by omega) (Nat.le_refl _) (by omega)]))
/-- a span that nothing was told of -/
def Frs (R X W : Tb) (a b : Nat) : Prop := ∀ p, R p a b = 2001 ∧ X p a b = 2001 ∧ W p a b = 2001
theorem Frs.snd (h : Frs R X W a b) : Sound s u R X W a b :=
  ⟨fun p _ => by rw [(h p).1]; exact rsC_cap, fun p _ _ => by rw [(h p).2.1]; exact exC_cap, fun p _ _ => by rw [(h p).2.2]; exact Nat.le_trans rwC_cap (by rw [(h p).2.1]; exact Nat.le_refl _)⟩
/-- the tables stay as they ought to be -/
theorem Nrm.setR (h : Nrm s u R X W) {p v : Nat} (hv : v ≤ 2001) (hp : p < s.size) (hab : a ≤ b) (hb : b ≤ u.size) : Nrm s u (tbU R p a b v) X W := by
  refine ⟨fun q c d => ?_, h.cX, h.cW, fun q c d hd => ?_, h.oX, h.oW⟩
  · unfold tbU; split
    · exact hv
    · exact h.cR q c d
  · unfold tbU; rw [if_neg (fun e => hd (by obtain ⟨rfl, rfl, rfl⟩ := e; exact ⟨hp, hab, hb⟩))]; exact h.oR q c d hd
theorem Nrm.setX (h : Nrm s u R X W) {p v : Nat} (hv : v ≤ 2001) (hp : p < s.size) (hab : a ≤ b) (hb : b ≤ u.size) (hg : begs s p = true) : Nrm s u R (tbU X p a b v) W := by
  refine ⟨h.cR, fun q c d => ?_, h.cW, h.oR, fun q c d hd => ?_, h.oW⟩
  · unfold tbU; split
    · exact hv
    · exact h.cX q c d
  · unfold tbU; rw [if_neg (fun e => hd (by obtain ⟨rfl, rfl, rfl⟩ := e; exact ⟨hp, hab, hb, hg⟩))]; exact h.oX q c d hd
theorem Nrm.setW (h : Nrm s u R X W) {p v : Nat} (hv : v ≤ 2001) (hp : p < s.size) (hab : a ≤ b) (hb : b ≤ u.size) (hg : begs s p = true) : Nrm s u R X (tbU W p a b v) := by
  refine ⟨h.cR, h.cX, fun q c d => ?_, h.oR, h.oX, fun q c d hd => ?_⟩
  · unfold tbU; split
    · exact hv
    · exact h.cW q c d
  · unfold tbU; rw [if_neg (fun e => hd (by obtain ⟨rfl, rfl, rfl⟩ := e; exact ⟨hp, hab, hb, hg⟩))]; exact h.oW q c d hd
end
end Go.Proofs.YtnfaiaoipeholaaGreatDoor
