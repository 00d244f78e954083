/- RMakeT MakesPlays RecMath RecMath2 -/
import Derived.Test.YtnfaiaoipeholaaGreatDoorAa15
import Derived.Test.YtnfaiaoipeholaaGreatDoorAa08
import Derived.Test.YtnfaiaoipeholaaGreatDoorAa01
import Derived.Test.YtnfaiaoipeholaaGreatDoorAa12
import Derived.Test.YtnfaiaoipeholaaGreatDoorAa09
import Derived.Test.YtnfaiaoipeholaaGreatDoorAa11
namespace Go.Proofs.YtnfaiaoipeholaaGreatDoor
open Go.RowKit

set_option maxHeartbeats 400000 in
theorem digits_any (c : ByteArray) (w : World) (hc : c.size ≤ maxLen) : Calls Tryz.prog 34 #[.string c] w fun e w' => e = .returned (.bool (digs c)) ∧ w' = w := by
  unfold maxLen at hc
  generalize hR : digs c = R
  unfold digs at hR
  have HR := hide hR; clear hR
  go_enter Tryz.func34, Tryz.ntmps34
  go_wp2
  go_loop [3] (fun i => ∃ (k : Nat), k ≤ c.size ∧ i = .int .i64 k ∧ Hid (R = dgF c (c.size - k) k)) (fun i => c.size - (intOf i).toNat)
  case atStart => exact ⟨0, Nat.zero_le _, rfl, hide (unhide HR).symm⟩
  case round =>
    obtain ⟨k, hk, rfl, hr⟩ := hrel
    by_cases hlt : k < c.size
    · have hb := bt_at c k hlt
      have hst : R = (cD (bt c k) && dgF c (c.size - (k + 1)) (k + 1)) := by rw [unhide hr, show c.size - k = c.size - (k + 1) + 1 by omega]; rfl
      rw [hb] at hst
      by_cases h48 : (c[k].toNat : Int) < 48
      · have HF : Hid (R = false) := hide (by rw [hst]; simp [cD]; omega)
        clear hr hst hb
        go_wp2
        go_ret
        exact ⟨ret_bool (unhide HF).symm, rfl⟩
      · by_cases h57 : 57 < (c[k].toNat : Int)
        · have HF : Hid (R = false) := hide (by rw [hst]; simp [cD]; omega)
          clear hr hst hb
          go_wp2
          go_ret
          exact ⟨ret_bool (unhide HF).symm, rfl⟩
        · have HF : Hid (R = dgF c (c.size - (k + 1)) (k + 1)) := hide (by
            have : cD (c[k].toNat : Int) = true := by simp [cD]; omega
            rw [hst, this]; rfl)
          clear hr hst hb
          go_wp2
          go_round
          case rel => exact ⟨k + 1, by omega, by go_num, HF⟩
          case measure => simp [intOf]; omega
    · have HF : Hid (R = true) := hide (by rw [unhide hr, show c.size - k = 0 by omega]; rfl)
      clear hr
      go_wp2
      go_ret
      exact ⟨ret_bool (unhide HF).symm, rfl⟩

set_option maxHeartbeats 1000000 in
set_option maxRecDepth 1000000 in
theorem refMake_ok {s c : ByteArray} (hk : (chk s).1 = 0) (h m : Nat) (w : World) (hs : s.size ≤ maxLen) (hc : c.size ≤ maxLen) (h1 : ¬ 2000 < c.size) (h2 : digs c = true) (hh : 1 ≤ h ∧ h ≤ 9) (hm : 1 ≤ m ∧ m ≤ 5) :
    Calls Tryz.prog 17 #[.string s, .string c, .int .i64 h, .int .i64 m] w fun e w' => e = .returned (.tuple #[.string (mkR s c h m).1, .int .i64 (mkR s c h m).2]) ∧ Below w.heap.size w w' := by
  have G := hide (gram_of hk)
  have TN := hide (ten_chk hk)
  have h' : ((chk s).1 != 0) = false := by simp [hk]
  have H2 := hide h2
  have hmk : mkR s c h m = if nFit s h (bt s (0 : Nat) - 65).toNat = false then (⟨#[]⟩, 10) else if 2000 < (made s c h m).2.length then (⟨#[]⟩, 11) else (strOfNums (made s c h m).2, 0) := by
    unfold mkR
    rw [if_neg (by simp [h1, h2]), if_neg (by omega)]
    simp only [Int.toNat_natCast]
  generalize mkR s c h m = R at *
  have HMK := hide hmk
  obtain ⟨hh1, hh2⟩ := hh
  obtain ⟨hm1, hm2⟩ := hm
  have hc1 : ¬ ((c.size : Int) > 2000) := by omega
  clear hmk hk h2
  go_enter Tryz.func17, Tryz.ntmps17
  go_wp2_with fail
  refine (refCheck_any _ _ hs).mono ?_
  rintro e w1 ⟨rfl, hb1⟩
  go_wp2_with (first
    | (go_at_call 34; refine (digits_any _ _ hc).mono ?_; rw [unhide H2]; rintro e w' ⟨rfl, hw⟩; replace hw := hw.symm; subst hw)
    | fail)
  refine (read_gram _ (unhide G) _).mono ?_
  rintro e w2 ⟨rfl, hG2, hb2⟩
  go_wp2_with fail
  refine (lows_any (unhide G).small _ hG2 (Nat.le_refl _)).mono ?_
  rintro e w3 ⟨rfl, hb3⟩
  have hG3 : Gr w3 s w3.heap.size w1.heap.size := by
    have h := hG2.below hb3 (Nat.le_refl _)
    refine ⟨Nat.lt_of_lt_of_le h.lt hb3.size, h.start, fun f hf => ?_, h.nils⟩
    obtain ⟨p, n, j, q1, q2, q3, q4⟩ := h.rules f hf
    exact ⟨p, n, j, q1, q2, q3, EA.frame (fun _ _ => rfl) (fun b hb => Nat.lt_of_lt_of_le hb hb3.size) n n p _ (Nat.le_refl _) q4⟩
  have hst := hG3.start
  have k1 := Rm.start (c := c) (m := (m : Int)) 60 hG3
  have hbel : Below w.heap.size w w3 := (hb1.trans (hb2.mono hb1.size)).trans (hb3.mono (Nat.le_trans hb1.size hb2.size))
  obtain ⟨MV, hMV⟩ : ∃ MV, MV = (rms w1.heap.size (lowsF s 27) m c).toArray := ⟨_, rfl⟩
  rw [← hMV] at k1
  generalize hGV : (nms (lowsF s 27)).toArray = GV
  have HBU : Hid (Tryz.prog.built 60 [(0, .pointer (some ⟨w1.heap.size, 0, none⟩)), (1, .agg GV), (2, .int .i64 m), (3, .string c)] = some MV) := hide (by rw [← hGV, hMV]; exact Tryz.builtRm _ _ _ _)
  have K1 := hide k1
  have HBEL := hide hbel
  have hzz : w1.heap.size < w3.heap.size := hG3.lt
  clear hGV hMV hG2 hG3 hb1 hb2 hb3 k1 hbel
  go_wp2_with (first | (refine wpList_buildTo rfl 60 _ rfl _ rfl MV (by rw [Array.toList_map]; exact unhide HBU) ?_) | fail)
  have hB4 : Below w.heap.size w (w3.alloc (.cells MV 60)) := (unhide HBEL).alloc (unhide HBEL).size _
  have hlt4 : w3.heap.size < (w3.alloc (.cells MV 60)).heap.size := by simp
  have hw3 := (unhide HBEL).size
  generalize w3.alloc (.cells MV 60) = w4 at *
  generalize w3.heap.size = b at *
  have hN := start_name (unhide G)
  have hv : 65 ≤ bt s (0 : Nat) ∧ bt s (0 : Nat) ≤ 90 := by simpa [cN] using hN
  obtain ⟨hv1, hv2⟩ := hv
  have hF : isF s 0 = true := by unfold isF; rw [hN]; simp
  have hff : facFit s (nFit s h) (expFit s (nFit s h)) 0 = nFit s h (bt s (0 : Nat) - 65).toNat := by unfold facFit; rw [if_pos hN]
  have hfit0 := lows_fit (unhide G) (i := (bt s (0 : Nat) - 65).toNat) (l := h) ⟨0, hN, rfl⟩ (by omega)
  have c26 := (unhide K1).gr.start
  have cnm := (unhide K1).nam (bt s (0 : Nat) - 65).toNat _ (nms_at (lowsF s 27) _ (by omega))
  have hnb := nms_lows s 27 (bt s (0 : Nat) - 65).toNat
  have hcO : cO (bt s (0 : Nat)) = false := by
    cases e : cO (bt s (0 : Nat))
    · rfl
    · have := cO_vals e; omega
  have hpos : 0 < (made s c h m).2.length := by unfold made genF; rw [if_pos hN]; simp
  have hfu := full_le (unhide G).small
  generalize hLv : lowsF s 27 (bt s (0 : Nat) - 65).toNat = LV at *
  have HHF := hide hF
  have HFF := hide hff
  have HCO := hide hcO
  have HB4 := hide hB4
  generalize hbt0 : bt s (0 : Nat) = K at *
  have HBT := hide hbt0
  have hix : K - 65 < 26 := by omega
  have hix0 : 0 ≤ K - 65 := by omega
  have hwr : IntKind.u8.wrap (K - 65) = K - 65 := by simp [IntKind.wrap, IntKind.signed, IntKind.bits]; omega
  have hwr2 : IntKind.i64.wrap ((h : Int) - 1) = (h : Int) - 1 := by simp [IntKind.wrap, IntKind.signed, IntKind.bits]; omega
  clear hst hF hff hcO hB4 hLv hN hbt0
  cases hfit : nFit s h (K - 65).toNat
  · have hgt : (h : Int) - 1 < LV := by
      have : ¬ LV < (h : Nat) := fun e => by rw [hfit0.1 e] at hfit; cases hfit
      omega
    have HR : Hid (R = (⟨#[]⟩, 10)) := hide (by rw [unhide HMK, if_pos hfit])
    clear hfit hfit0 HMK
    go_quiet (fail)
    go_wp2
    go_ret2
    exact ⟨ret_str (by rw [unhide HR]) (by rw [unhide HR]), below_drewN (unhide HB4) _⟩
  · have hgt : LV ≤ (h : Int) - 1 := by have := hfit0.2 hfit; omega
    have HR : Hid (R = if 2000 < (made s c h m).2.length then (⟨#[]⟩, 11) else (strOfNums (made s c h m).2, 0)) := hide (by rw [unhide HMK, if_neg (by rw [hfit]; decide)])
    have HFI := hide hfit
    clear hfit hfit0 HMK
    go_quiet (fail)
    go_wp2_with fail
    have v : Er s c m := ⟨unhide G, unhide TN, unhide H2, by omega, hm1, hm2⟩
    have hK4 := (unhide K1).below (below_drewN (Below.refl _ _) nq)
    have hcall := rfac_any v (by omega) (rexpr_all (b := b) (B := b) (g := w1.heap.size) v (full s) (by omega)) (h : Int) (.pointer none) 0 0 h 0 [] _ hK4 (.inl ⟨by rw [unhide HBT]; exact unhide HCO, rfl⟩) rfl hh2 (unhide HHF) (by rw [unhide HFF]; exact unhide HFI) (Nat.le_refl _) (full_dep hh2) (by simp) (by simp)
    rw [unhide HBT] at hcall
    refine hcall.mono ?_
    rintro e w5 ⟨rfl, a5, T5, hk5, hb5, he5, ha5, hT5⟩
    have hbel5 : Below w.heap.size w w5 := (below_drewN (unhide HB4) nq).trans (hb5.below hw3 (by simp; omega))
    have he : Ends [] (made s c h m) a5 T5 := he5
    obtain ⟨_, he1, he2⟩ := he
    simp only [List.length_nil, Nat.zero_add, List.nil_append] at he1 he2
    have c30 := hk5.out
    have hsz := strs_size T5
    have HB5 := hide hbel5
    by_cases hbig : 2000 < (made s c h m).2.length
    · have hTb := he2 hbig
      have hbig' : decide ((2000 : Int) < (T5.length : Int)) = true := by simp; omega
      have HR2 : Hid (R = (⟨#[]⟩, 11)) := hide (by rw [unhide HR, if_pos hbig])
      clear he1 he2 he5 hk5 hb5 hbel5 HR hcall hK4
      go_wp2
      go_ret2
      exact ⟨ret_str (by rw [unhide HR2]) (by rw [unhide HR2]), unhide HB5⟩
    · obtain ⟨_, hTe⟩ := he1 (by omega)
      have hbig' : decide ((2000 : Int) < (T5.length : Int)) = false := by rw [hTe]; simp; omega
      have HR2 : Hid (R = (strOfNums T5, 0)) := hide (by rw [unhide HR, if_neg hbig, hTe])
      clear he1 he2 he5 hk5 hb5 hbel5 HR hTe hcall hK4
      go_wp2
      go_ret2
      exact ⟨ret_str (by rw [unhide HR2]) (by rw [unhide HR2]), unhide HB5⟩

set_option maxHeartbeats 400000 in
set_option maxRecDepth 1000000 in
theorem refMake_any {s c : ByteArray} (h m : Int) (w : World) (hs : s.size ≤ maxLen) (hc : c.size ≤ maxLen) :
    Calls Tryz.prog 17 #[.string s, .string c, .int .i64 h, .int .i64 m] w fun e w' => e = .returned (.tuple #[.string (mk s c h m).1, .int .i64 (mk s c h m).2]) ∧ Below w.heap.size w w' := by
  by_cases hk : (chk s).1 = 0
  · have e : mk s c h m = mkR s c h m := by unfold mk; rw [if_neg (by simp [hk])]
    rw [e]
    have h' : ((chk s).1 != 0) = false := by simp [hk]
    by_cases h1 : 2000 < c.size ∨ digs c = false
    · have e : mkR s c h m = (⟨#[]⟩, 8) := by unfold mkR; rw [if_pos h1]
      rw [e]
      by_cases h2 : 2000 < c.size
      · have hd : decide ((2000 : Int) < (c.size : Int)) = true := by simp; omega
        clear e h1 hk
        go_enter Tryz.func17, Tryz.ntmps17
        go_wp2_with fail
        refine (refCheck_any _ _ hs).mono ?_
        rintro e w1 ⟨rfl, hb1⟩
        go_wp2_with (first
          | (go_at_call 34; refine (digits_any _ _ hc).mono ?_; rintro e w' ⟨rfl, hw⟩; replace hw := hw.symm; subst hw)
          | fail)
        go_ret2
        exact ⟨rfl, hb1⟩
      · have hd : decide ((2000 : Int) < (c.size : Int)) = false := by simp; omega
        have H2 : Hid (digs c = false) := hide (h1.resolve_left h2)
        clear e h1 hk
        go_enter Tryz.func17, Tryz.ntmps17
        go_wp2_with fail
        refine (refCheck_any _ _ hs).mono ?_
        rintro e w1 ⟨rfl, hb1⟩
        go_wp2_with (first
          | (go_at_call 34; refine (digits_any _ _ hc).mono ?_; rw [unhide H2]; rintro e w' ⟨rfl, hw⟩; replace hw := hw.symm; subst hw)
          | fail)
        go_ret2
        exact ⟨rfl, hb1⟩
    · have h2 : digs c = true := by
        cases e : digs c
        · exact absurd (.inr e) h1
        · rfl
      have h3 : ¬ 2000 < c.size := fun e => h1 (.inl e)
      by_cases hl : 1 ≤ h ∧ h ≤ 9 ∧ 1 ≤ m ∧ m ≤ 5
      · obtain ⟨k, rfl⟩ : ∃ k : Nat, h = k := ⟨h.toNat, by omega⟩
        obtain ⟨j, rfl⟩ : ∃ j : Nat, m = j := ⟨m.toNat, by omega⟩
        exact refMake_ok hk k j w hs hc h3 h2 (by omega) (by omega)
      · have e : mkR s c h m = (⟨#[]⟩, 9) := by unfold mkR; rw [if_neg h1, if_pos hl]
        rw [e]
        have hd : decide ((2000 : Int) < (c.size : Int)) = false := by simp; omega
        have H2 := hide h2
        have hlim : (decide (h < 1) || decide (9 < h) || decide (m < 1) || decide (5 < m)) = true := by
          simp only [Bool.or_eq_true, decide_eq_true_eq]; omega
        clear e h1 hk h2 h3
        go_enter Tryz.func17, Tryz.ntmps17
        go_wp2_with fail
        refine (refCheck_any _ _ hs).mono ?_
        rintro e w1 ⟨rfl, hb1⟩
        go_wp2_with (first
          | (go_at_call 34; refine (digits_any _ _ hc).mono ?_; rw [unhide H2]; rintro e w' ⟨rfl, hw⟩; replace hw := hw.symm; subst hw)
          | fail)
        all_goals first
          | (go_ret2; exact ⟨rfl, hb1⟩)
          | (exfalso; simp_all; omega)
  · have e : mk s c h m = (⟨#[]⟩, (chk s).1) := by unfold mk; rw [if_pos hk]
    rw [e]
    have h' : ((chk s).1 != 0) = true := by simp [hk]
    clear hk e
    go_enter Tryz.func17, Tryz.ntmps17
    go_wp2_with fail
    refine (refCheck_any _ _ hs).mono ?_
    rintro e w1 ⟨rfl, hb1⟩
    go_wp2
    go_ret2
    exact ⟨rfl, hb1⟩
end Go.Proofs.YtnfaiaoipeholaaGreatDoor

namespace Go.Proofs.YtnfaiaoipeholaaGreatDoor
open Go.RowKit

set_option maxHeartbeats 400000 in
theorem numM_any (x : Int) (w : World) : Calls Tryz.prog 15 #[.int .i64 x] w fun e w' => e = .returned (.int .i64 x) ∧ w' = w := by
  go_enter Tryz.func15, Tryz.ntmps15
  go_wp2
  go_ret; exact ⟨rfl, rfl⟩

set_option maxHeartbeats 400000 in
set_option maxRecDepth 1000000 in
theorem plays_make (n m : Int) (s t u : ByteArray) (w : World) (hs : s.size ≤ maxLen) (ht : t.size ≤ maxLen) :
    Calls Tryz.prog 6 #[.agg #[.int .i64 3, .int .i64 n, .int .i64 m, .string s, .string t, .string u]] w fun e w' => e = .returned (.bool true) ∧ Below w.heap.size w w' := by
  generalize hR : mk s t n m = R
  have HR := hide hR; clear hR
  go_enter Tryz.func6, Tryz.ntmps6
  go_wp2_with fail
  refine (make_any _ _ _ hs ht).mono ?_
  rw [unhide HR]
  rintro e w1 ⟨rfl, hb1⟩
  obtain ⟨hc1, _⟩ := bcell' hb1
  have hz := hb1.size
  simp at hz
  go_wp2_with fail
  refine (refMake_any _ _ _ hs ht).mono ?_
  rw [unhide HR]
  rintro e w2 ⟨rfl, hb2⟩
  go_wp2_with (go_at_call 15; refine (numM_any _ _).mono ?_; rintro e w' ⟨rfl, hw⟩; subst hw)
  go_ret
  refine ⟨rfl, ?_⟩
  exact (((Below.refl _ _).alloc (Nat.le_refl _) _).trans (hb1.mono (by simp))).trans (hb2.mono (by omega))

theorem head_make : mk ⟨#[83, 61, 123, 97, 124, 66, 125, 91, 99, 93, 59, 66, 61, 60, 98, 62, 59]⟩ ⟨#[50, 48, 49, 51, 49, 52, 49]⟩ 2 2 = (⟨#[83, 40, 48, 123, 48, 97, 44, 49, 66, 40, 48, 60, 48, 98, 44, 48, 98, 62, 41, 125, 91, 48, 99, 93, 41]⟩, 0) := by decide +kernel

set_option maxHeartbeats 400000 in
set_option maxRecDepth 1000000 in
theorem heads_make (w : World) : Calls Tryz.prog 4 #[.int .i64 3] w fun e w' => e = .returned (.bool true) ∧ Below w.heap.size w w' := by
  have hsz : (⟨#[83, 61, 123, 97, 124, 66, 125, 91, 99, 93, 59, 66, 61, 60, 98, 62, 59]⟩ : ByteArray).size ≤ maxLen := by decide +kernel
  have htz : (⟨#[50, 48, 49, 51, 49, 52, 49]⟩ : ByteArray).size ≤ maxLen := by decide +kernel
  have hh := hide head_make
  go_enter Tryz.func4, Tryz.ntmps4
  go_wp2_with fail
  refine (make_any _ _ _ hsz htz).mono ?_
  rw [unhide hh]
  rintro e w1 ⟨rfl, hb1⟩
  go_wp2
  go_ret
  exact ⟨rfl, hb1⟩
end Go.Proofs.YtnfaiaoipeholaaGreatDoor

namespace Go.Proofs.YtnfaiaoipeholaaGreatDoor

/-- the commas of a bracket, counted -/
def elF (t : ByteArray) : Nat → Nat → Int → Nat → Nat
  | 0, _, _, c => c
  | n + 1, i, d, c => if d ≤ 0 then c else elF t n (i + 1) (dpt (bt t i) d) (if bt t i = 44 ∧ dpt (bt t i) d = 1 then c + 1 else c)
def elD (t : ByteArray) (i : Nat) (d : Int) (c : Nat) : Nat := elF t (t.size - i) i d c
/-- how many trees stand side by side in the bracket that opens here -/
def els (t : ByteArray) (p : Nat) : Nat := if cX (bt t (p + 1 : Nat)) = true then 0 else elD t (p + 1) 1 1
theorem elD_step {t : ByteArray} {i : Nat} {d : Int} {c : Nat} (h : i < t.size) (hd : 0 < d) : elD t i d c = elD t (i + 1) (dpt (bt t i) d) (if bt t i = 44 ∧ dpt (bt t i) d = 1 then c + 1 else c) := by
  unfold elD
  rw [show t.size - i = (t.size - (i + 1)) + 1 by omega]
  conv => lhs; unfold elF
  rw [if_neg (by omega)]
theorem elD_zero {t : ByteArray} {i : Nat} {d : Int} {c : Nat} (hd : d ≤ 0) : elD t i d c = c := by
  unfold elD
  cases t.size - i with
  | zero => rfl
  | succ n => unfold elF; rw [if_pos hd]
/-- a byte that is no bracket and no comma -/
theorem elD_plain {t : ByteArray} {i : Nat} {d : Int} {c : Nat} (h : i < t.size) (hd : 0 < d) (h1 : cO (bt t i) = false) (h2 : cX (bt t i) = false) (h3 : bt t i ≠ 44) : elD t i d c = elD t (i + 1) d c := by
  have e : dpt (bt t i) d = d := by simp [dpt, h1, h2]
  rw [elD_step h hd, e, if_neg (fun hh => h3 hh.1)]
theorem elD_open {t : ByteArray} {i : Nat} {d : Int} {c : Nat} (hd : 0 < d) (h1 : cO (bt t i) = true) : elD t i d c = elD t (i + 1) (d + 1) c := by
  have hl : i < t.size := bt_lt (by intro e; rw [e] at h1; revert h1; decide)
  have e : dpt (bt t i) d = d + 1 := by simp [dpt, h1]
  have h44 : bt t i ≠ 44 := by intro e; rw [e] at h1; revert h1; decide
  rw [elD_step hl hd, e, if_neg (fun hh => h44 hh.1)]
theorem elD_close {t : ByteArray} {i : Nat} {d : Int} {c : Nat} (hd : 0 < d) (h1 : cX (bt t i) = true) : elD t i d c = elD t (i + 1) (d - 1) c := by
  have hl : i < t.size := bt_lt (by intro e; rw [e] at h1; revert h1; decide)
  obtain ⟨_, _, h2, _⟩ := close_not h1
  have e : dpt (bt t i) d = d - 1 := by simp [dpt, h1, h2]
  have h44 : bt t i ≠ 44 := by intro e; rw [e] at h1; revert h1; decide
  rw [elD_step hl hd, e, if_neg (fun hh => h44 hh.1)]
theorem elD_comma {t : ByteArray} {i : Nat} {d : Int} {c : Nat} (hd : 0 < d) (h1 : bt t i = 44) : elD t i d c = elD t (i + 1) d (if d = 1 then c + 1 else c) := by
  have hl : i < t.size := bt_lt (by omega)
  have e : dpt (bt t i) d = d := by rw [h1]; simp [dpt, cO, cC, cX]
  rw [elD_step hl hd, e]
  simp [h1]

/-- what is skipped leaves the count as it is -/
def Skip (t : ByteArray) (i j : Nat) : Prop := ∀ (d : Int) (c : Nat), 0 < d → elD t i d c = elD t j d c
theorem Skip.trans {t : ByteArray} {i j k : Nat} (h : Skip t i j) (g : Skip t j k) : Skip t i k := fun d c hd => (h d c hd).trans (g d c hd)
/-- the number of elements that are read -/
def nEl (t : ByteArray) (rec : Nat → Option (Nat × Nat)) (b : Int) : Nat → Nat → Nat
  | 0, _ => 0
  | m + 1, i => match rec i with
    | none => 0
    | some (j, _) => if bt t j = b then 1 else nEl t rec b m (j + 1) + 1
section
variable {s t : ByteArray} {most : Int}
theorem pEl_skip {rec : Nat → Option (Nat × Nat)} {b : Int} {many : Bool} (hr : ∀ i j h, rec i = some (j, h) → Skip t i j) (hb : cX b = true) :
    ∀ m i top cnt j h, pEl t rec b many most m i top cnt = some (j, h) → ∀ (d : Int) (c : Nat), 0 < d → elD t i d c = elD t j (d - 1) (if d = 1 then c + (nEl t rec b m i - 1) else c) ∧ 1 ≤ nEl t rec b m i
  | 0, i, top, cnt, j, h, e => by cases e
  | m + 1, i, top, cnt, j, h, e => by
    intro d c hd
    unfold pEl at e
    cases hq : rec i with
    | none => rw [hq] at e; cases e
    | some q =>
      obtain ⟨a, k⟩ := q
      rw [hq] at e
      simp only at e
      have hs := hr i a k hq d c hd
      have hn : nEl t rec b (m + 1) i = if bt t a = b then 1 else nEl t rec b m (a + 1) + 1 := by simp only [nEl, hq]
      split at e
      · cases e
      split at e
      · rename_i hbb
        have hx : cX (bt t a) = true := by rw [hbb]; exact hb
        simp only [Option.some.injEq, Prod.mk.injEq] at e
        rw [hn, if_pos hbb, hs, elD_close hd hx, ← e.1]
        refine ⟨?_, Nat.le_refl _⟩
        split <;> rfl
      rename_i hbb
      split at e
      · rename_i hc
        obtain ⟨i1, i2⟩ := pEl_skip hr hb m (a + 1) (max top k) (cnt + 1) j h e d (if d = 1 then c + 1 else c) hd
        rw [hn, if_neg hbb, hs, elD_comma hd hc.1, i1]
        refine ⟨?_, by omega⟩
        by_cases hd1 : d = 1
        · simp only [if_pos hd1]; congr 1; omega
        · simp only [if_neg hd1]
      · cases e
theorem pB_skip {rec : Nat → Nat → Option (Nat × Nat)} (hr : ∀ x i j h, rec x i = some (j, h) → Skip t i j) {f i j h : Nat} (hb : cX (cC (bt s f)) = true) (e : pB s t most rec f i = some (j, h)) (d : Int) (c : Nat) (hd : 1 < d) : elD t i d c = elD t j (d - 1) c := by
  unfold pB at e
  split at e
  · rename_i hh
    simp only [Option.some.injEq, Prod.mk.injEq] at e
    rw [elD_close (by omega) (by rw [hh.1]; exact hb), e.1]
  · have := (pEl_skip (hr (f + 1)) hb _ _ _ _ _ _ e d c (by omega)).1
    rw [if_neg (by omega)] at this; exact this
theorem letter_not {c : Int} (h : (cL c || cN c || cD c) = true) : cO c = false ∧ cX c = false ∧ c ≠ 44 := by
  have hv : ((97 ≤ c ∧ c ≤ 122) ∨ (65 ≤ c ∧ c ≤ 90)) ∨ (48 ≤ c ∧ c ≤ 57) := by simpa [cL, cN, cD, or_assoc] using h
  refine ⟨?_, ?_, by omega⟩
  · cases e : cO c
    · rfl
    · have := cO_vals e; omega
  · cases e : cX c
    · rfl
    · have := cX_vals e; omega
theorem pF_skip {rec : Nat → Nat → Option (Nat × Nat)} (hr : ∀ x i j h, rec x i = some (j, h) → Skip t i j) {f i j h : Nat} (hf : isF s f = true) (e : pF s t most rec f i = some (j, h)) : Skip t i j := by
  intro d c hd
  have hnz : bt s f ≠ 0 := by intro e; rw [isF, e] at hf; exact absurd hf (by decide)
  unfold pF at e
  split at e
  · cases e
  rename_i hbt
  have hbt' : bt t i = bt s f := by omega
  have hl : i < t.size := bt_lt (by omega)
  split at e
  · rename_i hL
    obtain ⟨n1, n2, n3⟩ := letter_not (c := bt t i) (by rw [hbt', hL]; rfl)
    simp only [Option.some.injEq, Prod.mk.injEq] at e
    rw [elD_plain hl hd n1 n2 n3, e.1]
  rename_i hL
  split at e
  · rename_i hN
    obtain ⟨n1, n2, n3⟩ := letter_not (c := bt t i) (by rw [hbt', hN]; simp)
    unfold pN at e
    split at e
    · cases e
    rename_i h40
    have h40' : bt t (i + 1 : Nat) = 40 := by omega
    cases hq : rec (rl s (bt s f) + 2).toNat (i + 1 + 1) with
    | none => rw [hq] at e; cases e
    | some q =>
      obtain ⟨a, k⟩ := q
      rw [hq] at e
      simp only at e
      split at e
      · rename_i h41
        simp only [Option.some.injEq, Prod.mk.injEq] at e
        rw [elD_plain hl hd n1 n2 n3, elD_open hd (by rw [h40']; decide), hr _ _ _ _ hq (d + 1) c (by omega), elD_close (by omega) (by rw [h41]; decide), e.1]
        congr 1; omega
      · cases e
  · rename_i hN
    have hO : cO (bt s f) = true := by simpa [isF, hL, hN] using hf
    have hx : cX (cC (bt s f)) = true := cX_cC _ (by simpa [cO] using hO)
    rw [elD_open hd (by rw [hbt']; exact hO), pB_skip hr hx e (d + 1) c (by omega)]
    congr 1; omega
theorem pFs_skip {g : Nat → Nat → Option (Nat × Nat)} : ∀ (L : List Nat) (i top j h : Nat), (∀ f ∈ L, ∀ i j h, g f i = some (j, h) → Skip t i j) → pFs g L i top = some (j, h) → Skip t i j
  | [], i, top, j, h, _, e => by
    simp only [pFs, Option.some.injEq, Prod.mk.injEq] at e
    intro d c _; rw [e.1]
  | f :: L, i, top, j, h, hg, e => by
    unfold pFs at e
    cases hq : g f i with
    | none => rw [hq] at e; cases e
    | some q =>
      obtain ⟨a, k⟩ := q
      rw [hq] at e
      exact (hg f (by simp) i a k hq).trans (pFs_skip L a (max top k) j h (fun f' hf' => hg f' (by simp [hf'])) e)
theorem pE_skip (s t : ByteArray) (most : Int) : ∀ n x i j h, pE s t most n x i = some (j, h) → Skip t i j
  | 0, x, i, j, h, e => by cases e
  | n + 1, x, i, j, h, e => by
    unfold pE at e
    split at e
    · rename_i hD
      have hl : i < t.size := bt_lt (by intro e; rw [e] at hD; revert hD; decide)
      obtain ⟨n1, n2, n3⟩ := letter_not (c := bt t i) (by rw [hD]; simp)
      cases hq : ap s (bt t i - 48).toNat x with
      | none => rw [hq] at e; cases e
      | some a =>
        rw [hq] at e
        have h1 := pFs_skip (t := t) (fe s a).1 (i + 1) 0 j h (fun f hf i j h e => pF_skip (fun x i j h e => pE_skip s t most n x i j h e) (fe_mem hf).1 e) e
        intro d c hd
        rw [elD_plain hl hd n1 n2 n3]; exact h1 d c hd
    · cases e
/-- a name's brackets hold one tree -/
theorem els_name {n x i j h : Nat} (e : pE s t most n x (i + 1) = some (j, h)) (h41 : bt t j = 41) : els t i = 1 := by
  have hD : cD (bt t (i + 1 : Nat)) = true := by
    cases n with
    | zero => cases e
    | succ n =>
      unfold pE at e
      split at e
      · assumption
      · cases e
  obtain ⟨_, n2, _⟩ := letter_not (c := bt t (i + 1 : Nat)) (by rw [hD]; simp)
  unfold els
  rw [if_neg (by rw [n2]; decide), pE_skip s t most n x (i + 1) j h e 1 1 (by omega), elD_close (by omega) (by rw [h41]; decide), elD_zero (by omega)]
/-- the number of trees in a bracket, from the place behind what opens it -/
def nB (s t : ByteArray) (rec : Nat → Nat → Option (Nat × Nat)) (f i : Nat) : Nat :=
  if bt t i = cC (bt s f) ∧ (bt s f = 91 ∨ bt s f = 123) then 0 else nEl t (rec (f + 1)) (cC (bt s f)) (t.size - i) i
theorem els_bracket {n f i j h : Nat} (hO : cO (bt s f) = true) (e : pB s t most (pE s t most n) f (i + 1) = some (j, h)) : els t i = nB s t (pE s t most n) f (i + 1) := by
  have hx : cX (cC (bt s f)) = true := cX_cC _ (by simpa [cO] using hO)
  unfold pB at e
  unfold nB els
  split at e
  · rename_i hh
    rw [if_pos hh, if_pos (by rw [hh.1]; exact hx)]
  · rename_i hh
    rw [if_neg hh]
    obtain ⟨e1, e2⟩ := pEl_skip (rec := pE s t most n (f + 1)) (fun i j h e => pE_skip s t most n (f + 1) i j h e) hx _ _ _ _ _ _ e 1 1 (by omega)
    have hD : cD (bt t (i + 1 : Nat)) = true := by
      obtain ⟨m, hm⟩ : ∃ m, t.size - (i + 1) = m + 1 := by
        cases hh : t.size - (i + 1) with
        | zero => rw [hh] at e; cases e
        | succ m => exact ⟨m, rfl⟩
      rw [hm] at e
      unfold pEl at e
      cases n with
      | zero => cases e
      | succ n =>
        cases hq : pE s t most (n + 1) (f + 1) (i + 1) with
        | none => rw [hq] at e; cases e
        | some q =>
          unfold pE at hq
          split at hq
          · assumption
          · cases hq
    obtain ⟨_, n2, _⟩ := letter_not (c := bt t (i + 1 : Nat)) (by rw [hD]; simp)
    rw [if_neg (by rw [n2]; decide), e1, elD_zero (by omega), if_pos rfl]; omega
end
end Go.Proofs.YtnfaiaoipeholaaGreatDoor

namespace Go.Proofs.YtnfaiaoipeholaaGreatDoor

theorem pFs_parts {g : Nat → Nat → Option (Nat × Nat)} : ∀ (L : List Nat) (i top j h : Nat), pFs g L i top = some (j, h) → top ≤ h ∧ ∀ f ∈ L, ∃ i' j' h', g f i' = some (j', h') ∧ h' ≤ h
  | [], i, top, j, h, e => by
    simp only [pFs, Option.some.injEq, Prod.mk.injEq] at e
    exact ⟨by omega, fun f hf => by cases hf⟩
  | f :: L, i, top, j, h, e => by
    unfold pFs at e
    cases hq : g f i with
    | none => rw [hq] at e; cases e
    | some q =>
      obtain ⟨a, k⟩ := q
      rw [hq] at e
      obtain ⟨h1, h2⟩ := pFs_parts L a (max top k) j h e
      refine ⟨by omega, fun f' hf' => ?_⟩
      rcases List.mem_cons.1 hf' with rfl | hm
      · exact ⟨i, a, k, hq, by omega⟩
      · exact h2 f' hm
theorem pEl_first {t : ByteArray} {rec : Nat → Option (Nat × Nat)} {b : Int} {many : Bool} {most : Int} : ∀ m i top cnt j h, pEl t rec b many most m i top cnt = some (j, h) → top ≤ h ∧ ∃ j' h', rec i = some (j', h') ∧ h' ≤ h
  | 0, i, top, cnt, j, h, e => by cases e
  | m + 1, i, top, cnt, j, h, e => by
    unfold pEl at e
    cases hq : rec i with
    | none => rw [hq] at e; cases e
    | some q =>
      obtain ⟨a, k⟩ := q
      rw [hq] at e
      simp only at e
      split at e
      · cases e
      split at e
      · simp only [Option.some.injEq, Prod.mk.injEq] at e
        exact ⟨by omega, a, k, rfl, by omega⟩
      split at e
      · have := (pEl_first m (a + 1) (max top k) (cnt + 1) j h e).1
        exact ⟨by omega, a, k, rfl, by omega⟩
      · cases e
section
variable {s t : ByteArray} {most : Int}
/-- what is read of a factor fits, where it is low enough -/
theorem pF_fit {n : Nat} (hE : ∀ x i j h l, pE s t most n x i = some (j, h) → h ≤ l → expFit s (nFit s l) x = true) {f i j h l : Nat} (e : pF s t most (pE s t most n) f i = some (j, h)) (hl : h ≤ l) : facFit s (nFit s l) (expFit s (nFit s l)) f = true := by
  unfold pF at e
  split at e
  · cases e
  split at e
  · rename_i hL
    unfold facFit
    have hv : 97 ≤ bt s f ∧ bt s f ≤ 122 := by simpa [cL] using hL
    rw [if_neg (by simp [cN]; omega), if_neg (by omega)]
  split at e
  · rename_i hN
    unfold facFit
    rw [if_pos hN]
    have hv : 65 ≤ bt s f ∧ bt s f ≤ 90 := by simpa [cN] using hN
    unfold pN at e
    split at e
    · cases e
    cases hq : pE s t most n (rl s (bt s f) + 2).toNat (i + 1 + 1) with
    | none => rw [hq] at e; cases e
    | some q =>
      obtain ⟨a, k⟩ := q
      rw [hq] at e
      simp only at e
      split at e
      · simp only [Option.some.injEq, Prod.mk.injEq] at e
        obtain ⟨l', rfl⟩ : ∃ l', l = l' + 1 := ⟨l - 1, by omega⟩
        show expFit s (nFit s l') (rl s (65 + (bt s f - 65).toNat : Nat) + 2).toNat = true
        rw [show ((65 + (bt s f - 65).toNat : Nat) : Int) = bt s f by omega]
        exact hE _ _ _ _ l' hq (by omega)
      · cases e
  · rename_i hN
    unfold facFit
    rw [if_neg hN]
    split
    · rename_i hk
      unfold pB at e
      rw [if_neg (by omega)] at e
      obtain ⟨_, j', h', h1, h2⟩ := pEl_first _ _ _ _ _ _ e
      exact hE _ _ _ _ l h1 (by omega)
    · rfl
theorem pE_fit : ∀ n x i j h l, pE s t most n x i = some (j, h) → h ≤ l → expFit s (nFit s l) x = true
  | 0, x, i, j, h, l, e, _ => by cases e
  | n + 1, x, i, j, h, l, e, hl => by
    unfold pE at e
    split at e
    · cases hq : ap s (bt t i - 48).toNat x with
      | none => rw [hq] at e; cases e
      | some a =>
        rw [hq] at e
        obtain ⟨_, h2⟩ := pFs_parts _ _ _ _ _ e
        rw [expFit_step, List.any_eq_true]
        refine ⟨a, ?_, ?_⟩
        · rw [sts_ap] at hq; exact List.mem_of_getElem? hq
        · unfold altFit
          rw [List.all_eq_true]
          intro f hf
          obtain ⟨i', j', h', g1, g2⟩ := h2 f hf
          exact pF_fit (fun x i j h l => pE_fit n x i j h l) g1 (by omega)
    · cases e
/-- the parts of what is read of an expression -/
theorem pE_parts {n x i j h : Nat} (e : pE s t most (n + 1) x i = some (j, h)) : ∃ k a : Nat, bt t i = 48 + (k : Int) ∧ k ≤ 9 ∧ ap s k x = some a ∧ pFs (pF s t most (pE s t most n)) (fe s a).1 (i + 1) 0 = some (j, h) := by
  unfold pE at e
  split at e
  · rename_i hD
    have hv : 48 ≤ bt t i ∧ bt t i ≤ 57 := by simpa [cD] using hD
    cases hq : ap s (bt t i - 48).toNat x with
    | none => rw [hq] at e; cases e
    | some a =>
      rw [hq] at e
      exact ⟨(bt t i - 48).toNat, a, by omega, by omega, hq, e⟩
  · cases e
theorem pE_mem {n x i j h l k a : Nat} (hk : ap s k x = some a) (e : pFs (pF s t most (pE s t most n)) (fe s a).1 (i + 1) 0 = some (j, h)) (hl : h ≤ l) : k < (sts s x).length ∧ altFit s (nFit s l) (expFit s (nFit s l)) (fe s a).1 = true := by
  have hk' := hk
  rw [sts_ap] at hk'
  refine ⟨(List.getElem?_eq_some_iff.1 hk').1, ?_⟩
  obtain ⟨_, h2⟩ := pFs_parts _ _ _ _ _ e
  unfold altFit
  rw [List.all_eq_true]
  intro f hf
  obtain ⟨i', j', h', g1, g2⟩ := h2 f hf
  exact pF_fit (fun x i j h l => pE_fit n x i j h l) g1 (by omega)

/-- with a bound on lists -/
def Good (t : ByteArray) (most : Int) (i j : Nat) : Prop := ∀ p, i ≤ p → p < j → cO (bt t p) = true → (els t p : Int) ≤ most
def Bad (t : ByteArray) (most : Int) (i j : Nat) : Prop := ∃ p, i ≤ p ∧ p < j ∧ cO (bt t p) = true ∧ most < (els t p : Int)
def Either (t : ByteArray) (most : Int) (i : Nat) (r : Option (Nat × Nat)) (j h : Nat) : Prop := (r = some (j, h) ∧ Good t most i j) ∨ (r = none ∧ Bad t most i j)
theorem Bad.mono {t : ByteArray} {most : Int} {i j i' j' : Nat} (h : Bad t most i j) (h1 : i' ≤ i) (h2 : j ≤ j') : Bad t most i' j' := by
  obtain ⟨p, a, b, c, d⟩ := h; exact ⟨p, by omega, by omega, c, d⟩
theorem Good.join {t : ByteArray} {most : Int} {i j k : Nat} (h : Good t most i j) (g : Good t most j k) : Good t most i k := fun p h1 h2 h3 => by
  by_cases e : p < j
  · exact h p h1 e h3
  · exact g p (by omega) h2 h3
theorem Good.plain {t : ByteArray} {most : Int} {i : Nat} (h : cO (bt t i) = false) : Good t most i (i + 1) := fun p h1 h2 h3 => by
  have : p = i := by omega
  subst this; rw [h] at h3; cases h3
theorem Good.one {t : ByteArray} {most : Int} {i : Nat} (h : (els t i : Int) ≤ most) : Good t most i (i + 1) := fun p h1 h2 _ => by
  have : p = i := by omega
  subst this; exact h
theorem pFs_either {g g' : Nat → Nat → Option (Nat × Nat)} : ∀ (L : List Nat) (i top j h : Nat), (∀ f ∈ L, ∀ i j h, g f i = some (j, h) → i < j ∧ Either t most i (g' f i) j h) → pFs g L i top = some (j, h) → i ≤ j ∧ Either t most i (pFs g' L i top) j h
  | [], i, top, j, h, _, e => by
    have e' := e
    simp only [pFs, Option.some.injEq, Prod.mk.injEq] at e'
    exact ⟨by omega, .inl ⟨e, fun p h1 h2 _ => by omega⟩⟩
  | f :: L, i, top, j, h, hg, e => by
    unfold pFs at e ⊢
    cases hq : g f i with
    | none => rw [hq] at e; cases e
    | some q =>
      obtain ⟨a, k⟩ := q
      rw [hq] at e
      obtain ⟨hlt, h1⟩ := hg f (by simp) i a k hq
      obtain ⟨hle, h2⟩ := pFs_either L a (max top k) j h (fun f' hf' => hg f' (by simp [hf'])) e
      refine ⟨by omega, ?_⟩
      rcases h1 with ⟨e1, g1⟩ | ⟨e1, g1⟩
      · rw [e1]
        rcases h2 with ⟨e2, g2⟩ | ⟨e2, g2⟩
        · exact .inl ⟨e2, g1.join g2⟩
        · exact .inr ⟨e2, g2.mono (by omega) (Nat.le_refl _)⟩
      · rw [e1]
        exact .inr ⟨rfl, g1.mono (Nat.le_refl _) hle⟩
theorem pEl_either {rec rec' : Nat → Option (Nat × Nat)} {b : Int} {many : Bool} (hb : cO b = false) (hm : 0 < most) (hr : ∀ i j h, rec i = some (j, h) → i < j ∧ Either t most i (rec' i) j h) :
    ∀ m i top cnt j h, pEl t rec b many 0 m i top cnt = some (j, h) → i < j ∧ ((pEl t rec' b many most m i top cnt = some (j, h) ∧ cnt + (nEl t rec b m i : Int) ≤ most ∧ Good t most i j) ∨ (pEl t rec' b many most m i top cnt = none ∧ (most < cnt + (nEl t rec b m i : Int) ∨ Bad t most i j)))
  | 0, i, top, cnt, j, h, e => by cases e
  | m + 1, i, top, cnt, j, h, e => by
    unfold pEl at e ⊢
    cases hq : rec i with
    | none => rw [hq] at e; cases e
    | some q =>
      obtain ⟨a, k⟩ := q
      rw [hq] at e
      simp only at e
      have hn : nEl t rec b (m + 1) i = if bt t a = b then 1 else nEl t rec b m (a + 1) + 1 := by simp only [nEl, hq]
      obtain ⟨hlt, h1⟩ := hr i a k hq
      rw [if_neg (by omega)] at e
      rw [hn]
      split at e
      · rename_i hbb
        simp only [Option.some.injEq, Prod.mk.injEq] at e
        obtain ⟨e1, e2⟩ := e
        refine ⟨by omega, ?_⟩
        rw [if_pos hbb]
        rcases h1 with ⟨r1, g1⟩ | ⟨r1, g1⟩
        · rw [r1]
          simp only
          by_cases hc : most < cnt + 1
          · rw [if_pos ⟨hm, hc⟩]
            exact .inr ⟨rfl, .inl (by omega)⟩
          · rw [if_neg (fun hh => hc hh.2), if_pos hbb]
            refine .inl ⟨by rw [e1, e2], by omega, ?_⟩
            rw [← e1]; exact g1.join (Good.plain (by rw [hbb]; exact hb))
        · rw [r1]
          exact .inr ⟨rfl, .inr (g1.mono (Nat.le_refl _) (by omega))⟩
      rename_i hbb
      split at e
      · rename_i hcm
        obtain ⟨hlt2, h2⟩ := pEl_either hb hm hr m (a + 1) (max top k) (cnt + 1) j h e
        refine ⟨by omega, ?_⟩
        rw [if_neg hbb]
        have h44 : cO (bt t a) = false := by rw [hcm.1]; decide
        rcases h1 with ⟨r1, g1⟩ | ⟨r1, g1⟩
        · rw [r1]
          simp only
          by_cases hc : most < cnt + 1
          · rw [if_pos ⟨hm, hc⟩]
            exact .inr ⟨rfl, .inl (by omega)⟩
          · rw [if_neg (fun hh => hc hh.2), if_neg hbb, if_pos hcm]
            rcases h2 with ⟨r2, c2, g2⟩ | ⟨r2, c2⟩
            · exact .inl ⟨r2, by omega, (g1.join (Good.plain h44)).join g2⟩
            · rcases c2 with c2 | c2
              · exact .inr ⟨r2, .inl (by omega)⟩
              · exact .inr ⟨r2, .inr (c2.mono (by omega) (Nat.le_refl _))⟩
        · rw [r1]
          exact .inr ⟨rfl, .inr (g1.mono (Nat.le_refl _) (by omega))⟩
      · cases e
theorem pF_either {n : Nat} (hm : 0 < most) (hr : ∀ x i j h, pE s t 0 n x i = some (j, h) → Either t most i (pE s t most n x i) j h) {f i j h : Nat} (hf : isF s f = true) (e : pF s t 0 (pE s t 0 n) f i = some (j, h)) : i < j ∧ Either t most i (pF s t most (pE s t most n) f i) j h := by
  have hlt := (pF_fwd (most := 0) (fun x i => pE_fwd s t 0 n x i) hf j h e).1
  refine ⟨hlt, ?_⟩
  have e0 := e
  unfold pF at e ⊢
  split at e
  · cases e
  rename_i hbt
  have hbt' : bt t i = bt s f := by omega
  rw [if_neg hbt]
  split at e
  · rename_i hL
    rw [if_pos hL]
    obtain ⟨n1, _, _⟩ := letter_not (c := bt t i) (by rw [hbt', hL]; rfl)
    refine .inl ⟨e, ?_⟩
    simp only [Option.some.injEq, Prod.mk.injEq] at e
    rw [← e.1]; exact Good.plain n1
  rename_i hL
  rw [if_neg hL]
  split at e
  · rename_i hN
    rw [if_pos hN]
    obtain ⟨n1, _, _⟩ := letter_not (c := bt t i) (by rw [hbt', hN]; simp)
    unfold pN at e ⊢
    split at e
    · cases e
    rename_i h40
    rw [if_neg h40]
    cases hq : pE s t 0 n (rl s (bt s f) + 2).toNat (i + 1 + 1) with
    | none => rw [hq] at e; cases e
    | some q =>
      obtain ⟨a, k⟩ := q
      rw [hq] at e
      simp only at e
      split at e
      · rename_i h41
        have hone := els_name (i := i + 1) hq h41
        have hia := (pE_fwd s t 0 n _ _ a k hq).1
        simp only [Option.some.injEq, Prod.mk.injEq] at e
        have h41' : cO (bt t a) = false := by rw [h41]; decide
        rcases hr _ _ _ _ hq with ⟨r1, g1⟩ | ⟨r1, g1⟩
        · rw [r1]
          simp only
          rw [if_pos h41]
          refine .inl ⟨by rw [e.1, e.2], ?_⟩
          rw [← e.1]
          exact (((Good.plain n1).join (Good.one (by rw [hone]; omega))).join g1).join (Good.plain h41')
        · rw [r1]
          exact .inr ⟨rfl, g1.mono (by omega) (by omega)⟩
      · cases e
  · rename_i hN
    rw [if_neg hN]
    have hO : cO (bt s f) = true := by simpa [isF, hL, hN] using hf
    have hne := els_bracket (s := s) (t := t) (most := 0) (n := n) (i := i) hO e
    have hcl : cO (cC (bt s f)) = false := by
      have hx : cX (cC (bt s f)) = true := cX_cC _ (by simpa [cO] using hO)
      exact (close_not hx).2.2.1
    unfold nB at hne
    unfold pB at e ⊢
    split at e
    · rename_i hh
      rw [if_pos hh]
      rw [if_pos hh] at hne
      refine .inl ⟨e, ?_⟩
      simp only [Option.some.injEq, Prod.mk.injEq] at e
      rw [← e.1]
      exact (Good.one (by rw [hne]; omega)).join (Good.plain (by rw [hh.1]; exact hcl))
    · rename_i hh
      rw [if_neg hh]
      rw [if_neg hh] at hne
      obtain ⟨hij, h2⟩ := pEl_either (rec := pE s t 0 n (f + 1)) (rec' := pE s t most n (f + 1)) hcl hm (fun i j h e => ⟨(pE_fwd s t 0 n _ _ j h e).1, hr _ _ _ _ e⟩) _ _ _ _ _ _ e
      rcases h2 with ⟨r2, c2, g2⟩ | ⟨r2, c2⟩
      · exact .inl ⟨r2, (Good.one (by rw [hne]; omega)).join g2⟩
      · refine .inr ⟨r2, ?_⟩
        rcases c2 with c2 | c2
        · exact ⟨i, Nat.le_refl _, by omega, by rw [hbt']; exact hO, by rw [hne]; omega⟩
        · exact c2.mono (by omega) (Nat.le_refl _)
theorem pE_either (hm : 0 < most) : ∀ n x i j h, pE s t 0 n x i = some (j, h) → Either t most i (pE s t most n x i) j h
  | 0, x, i, j, h, e => by cases e
  | n + 1, x, i, j, h, e => by
    obtain ⟨k, a, hk, hk9, ha, hp⟩ := pE_parts e
    obtain ⟨n1, _, _⟩ := letter_not (c := bt t i) (by simp [cL, cN, cD, hk]; omega)
    obtain ⟨hij, h2⟩ := pFs_either (most := most) (g' := pF s t most (pE s t most n)) (fe s a).1 (i + 1) 0 j h (fun f hf i j h e => pF_either hm (fun x i j h e => pE_either hm n x i j h e) (fe_mem hf).1 e) hp
    unfold pE
    rw [if_pos (by simp [cD, hk]; omega), show (bt t i - 48).toNat = k by omega, ha]
    rcases h2 with ⟨r2, g2⟩ | ⟨r2, g2⟩
    · exact .inl ⟨r2, (Good.plain n1).join g2⟩
    · exact .inr ⟨r2, g2.mono (by omega) (Nat.le_refl _)⟩
/-- the whole text -/
theorem whole_most (hm : 0 < most) {h : Nat} (hf : isF s 0 = true) (e : whole s t 0 = some h) : (whole s t most = some h ∧ Good t most 0 t.size) ∨ (whole s t most = none ∧ Bad t most 0 t.size) := by
  unfold whole at e ⊢
  split at e
  · cases e
  rename_i hsz
  rw [if_neg hsz]
  cases hq : pF s t 0 (pE s t 0 (t.size + 1)) 0 0 with
  | none => rw [hq] at e; cases e
  | some q =>
    obtain ⟨j, k⟩ := q
    rw [hq] at e
    simp only at e
    split at e
    · rename_i hj
      obtain ⟨_, h2⟩ := pF_either (most := most) hm (fun x i j h e => pE_either hm _ x i j h e) hf hq
      rcases h2 with ⟨r2, g2⟩ | ⟨r2, g2⟩
      · rw [r2]
        simp only
        rw [if_pos hj]
        exact .inl ⟨e, by rw [← hj]; exact g2⟩
      · rw [r2]
        exact .inr ⟨rfl, by rw [← hj]; exact g2⟩
    · cases e
end
end Go.Proofs.YtnfaiaoipeholaaGreatDoor
