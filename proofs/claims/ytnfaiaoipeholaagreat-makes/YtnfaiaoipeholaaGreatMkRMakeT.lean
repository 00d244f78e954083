/- The reference's Make. -/
import Derived.Test.YtnfaiaoipeholaaGreatMkRMakeE
import Derived.Test.YtnfaiaoipeholaaGreatRRead
import Derived.Test.YtnfaiaoipeholaaGreatMkRStart
namespace Go.Proofs.YtnfaiaoipeholaaGreat
open Go.RowKit

set_option maxHeartbeats 400000 in
theorem digits_any (c : ByteArray) (w : World) (hc : c.size ≤ maxLen) : Calls Tryz.prog 62 #[.string c] w fun e w' => e = .returned (.bool (digs c)) ∧ w' = w := by
  unfold maxLen at hc
  generalize hR : digs c = R
  unfold digs at hR
  have HR := hide hR; clear hR
  go_enter Tryz.func62, Tryz.ntmps62
  go_wp2
  go_loop [3] (fun i => ∃ (k : Nat), k ≤ c.size ∧ i = .int .i64 k ∧ Hid (R = dgF c (c.size - k) k)) (fun i => c.size - (intOf i).toNat)
  case atStart => exact ⟨0, Nat.zero_le _, rfl, hide (unhide HR).symm⟩
  case round =>
    obtain ⟨k, hk, rfl, hr⟩ := hrel
    by_cases hlt : k < c.size
    · have hb := bt_at c k hlt
      have hst : R = (cD (bt c k) && dgF c (c.size - (k + 1)) (k + 1)) := by rw [unhide hr, show c.size - k = c.size - (k + 1) + 1 by omega]; rfl
      rw [hb] at hst
      by_cases h48 : (c[k].toNat : Int) < 48
      · have HF : Hid (R = false) := hide (by rw [hst]; simp [cD]; omega)
        clear hr hst hb
        go_wp2
        go_ret
        exact ⟨ret_bool (unhide HF).symm, rfl⟩
      · by_cases h57 : 57 < (c[k].toNat : Int)
        · have HF : Hid (R = false) := hide (by rw [hst]; simp [cD]; omega)
          clear hr hst hb
          go_wp2
          go_ret
          exact ⟨ret_bool (unhide HF).symm, rfl⟩
        · have HF : Hid (R = dgF c (c.size - (k + 1)) (k + 1)) := hide (by
            have : cD (c[k].toNat : Int) = true := by simp [cD]; omega
            rw [hst, this]; rfl)
          clear hr hst hb
          go_wp2
          go_round
          case rel => exact ⟨k + 1, by omega, by go_num, HF⟩
          case measure => simp [intOf]; omega
    · have HF : Hid (R = true) := hide (by rw [unhide hr, show c.size - k = 0 by omega]; rfl)
      clear hr
      go_wp2
      go_ret
      exact ⟨ret_bool (unhide HF).symm, rfl⟩

set_option maxHeartbeats 1000000 in
set_option maxRecDepth 1000000 in
theorem refMake_ok {s c : ByteArray} (hk : (chk s).1 = 0) (h m : Nat) (w : World) (hs : s.size ≤ maxLen) (hc : c.size ≤ maxLen) (h1 : ¬ 2000 < c.size) (h2 : digs c = true) (hh : 1 ≤ h ∧ h ≤ 9) (hm : 1 ≤ m ∧ m ≤ 5) :
    Calls Tryz.prog 34 #[.string s, .string c, .int .i64 h, .int .i64 m] w fun e w' => e = .returned (.tuple #[.string (mkR s c h m).1, .int .i64 (mkR s c h m).2]) ∧ Below w.heap.size w w' := by
  have G := hide (gram_of hk)
  have TN := hide (ten_chk hk)
  have h' : ((chk s).1 != 0) = false := by simp [hk]
  have H2 := hide h2
  have hmk : mkR s c h m = if nFit s h (bt s (0 : Nat) - 65).toNat = false then (⟨#[]⟩, 10) else if 2000 < (made s c h m).2.length then (⟨#[]⟩, 11) else (strOfNums (made s c h m).2, 0) := by
    unfold mkR
    rw [if_neg (by simp [h1, h2]), if_neg (by omega)]
    simp only [Int.toNat_natCast]
  generalize mkR s c h m = R at *
  have HMK := hide hmk
  obtain ⟨hh1, hh2⟩ := hh
  obtain ⟨hm1, hm2⟩ := hm
  have hc1 : ¬ ((c.size : Int) > 2000) := by omega
  clear hmk hk h2
  go_enter Tryz.func34, Tryz.ntmps34
  go_wp2_with fail
  refine (refCheck_any _ _ hs).mono ?_
  rintro e w1 ⟨rfl, hb1⟩
  go_wp2_with (first
    | (go_at_call 62; refine (digits_any _ _ hc).mono ?_; rw [unhide H2]; rintro e w' ⟨rfl, hw⟩; replace hw := hw.symm; subst hw)
    | fail)
  refine (read_gram _ (unhide G) _).mono ?_
  rintro e w2 ⟨rfl, hG2, hb2⟩
  go_wp2_with fail
  refine (lows_any (unhide G).small _ hG2 (Nat.le_refl _)).mono ?_
  rintro e w3 ⟨rfl, hb3⟩
  have hG3 : Gr w3 s w3.heap.size w1.heap.size := by
    have h := hG2.below hb3 (Nat.le_refl _)
    refine ⟨Nat.lt_of_lt_of_le h.lt hb3.size, h.start, fun f hf => ?_, h.nils⟩
    obtain ⟨p, n, j, q1, q2, q3, q4⟩ := h.rules f hf
    exact ⟨p, n, j, q1, q2, q3, EA.frame (fun _ _ => rfl) (fun b hb => Nat.lt_of_lt_of_le hb hb3.size) n n p _ (Nat.le_refl _) q4⟩
  have hst := hG3.start
  have k1 := Rm.start (c := c) (m := (m : Int)) 91 hG3
  have hbel : Below w.heap.size w w3 := (hb1.trans (hb2.mono hb1.size)).trans (hb3.mono (Nat.le_trans hb1.size hb2.size))
  obtain ⟨MV, hMV⟩ : ∃ MV, MV = (rms w1.heap.size (lowsF s 27) m c).toArray := ⟨_, rfl⟩
  rw [← hMV] at k1
  generalize hGV : (nms (lowsF s 27)).toArray = GV
  have HBU : Hid (Tryz.prog.built 91 [(0, .pointer (some ⟨w1.heap.size, 0, none⟩)), (1, .agg GV), (2, .int .i64 m), (3, .string c)] = some MV) := hide (by rw [← hGV, hMV]; exact Tryz.builtRm _ _ _ _)
  have K1 := hide k1
  have HBEL := hide hbel
  have hzz : w1.heap.size < w3.heap.size := hG3.lt
  clear hGV hMV hG2 hG3 hb1 hb2 hb3 k1 hbel
  go_wp2_with (first | (refine wpList_buildTo rfl 91 _ rfl _ rfl MV (by rw [Array.toList_map]; exact unhide HBU) ?_) | fail)
  have hB4 : Below w.heap.size w (w3.alloc (.cells MV 91)) := (unhide HBEL).alloc (unhide HBEL).size _
  have hlt4 : w3.heap.size < (w3.alloc (.cells MV 91)).heap.size := by simp
  have hw3 := (unhide HBEL).size
  generalize w3.alloc (.cells MV 91) = w4 at *
  generalize w3.heap.size = b at *
  have hN := start_name (unhide G)
  have hv : 65 ≤ bt s (0 : Nat) ∧ bt s (0 : Nat) ≤ 90 := by simpa [cN] using hN
  obtain ⟨hv1, hv2⟩ := hv
  have hF : isF s 0 = true := by unfold isF; rw [hN]; simp
  have hff : facFit s (nFit s h) (expFit s (nFit s h)) 0 = nFit s h (bt s (0 : Nat) - 65).toNat := by unfold facFit; rw [if_pos hN]
  have hfit0 := lows_fit (unhide G) (i := (bt s (0 : Nat) - 65).toNat) (l := h) ⟨0, hN, rfl⟩ (by omega)
  have c26 := (unhide K1).gr.start
  have cnm := (unhide K1).nam (bt s (0 : Nat) - 65).toNat _ (nms_at (lowsF s 27) _ (by omega))
  have hnb := nms_lows s 27 (bt s (0 : Nat) - 65).toNat
  have hcO : cO (bt s (0 : Nat)) = false := by
    cases e : cO (bt s (0 : Nat))
    · rfl
    · have := cO_vals e; omega
  have hpos : 0 < (made s c h m).2.length := by unfold made genF; rw [if_pos hN]; simp
  have hfu := full_le (unhide G).small
  generalize hLv : lowsF s 27 (bt s (0 : Nat) - 65).toNat = LV at *
  have HHF := hide hF
  have HFF := hide hff
  have HCO := hide hcO
  have HB4 := hide hB4
  generalize hbt0 : bt s (0 : Nat) = K at *
  have HBT := hide hbt0
  have hix : K - 65 < 26 := by omega
  have hix0 : 0 ≤ K - 65 := by omega
  have hwr : IntKind.u8.wrap (K - 65) = K - 65 := by simp [IntKind.wrap, IntKind.signed, IntKind.bits]; omega
  have hwr2 : IntKind.i64.wrap ((h : Int) - 1) = (h : Int) - 1 := by simp [IntKind.wrap, IntKind.signed, IntKind.bits]; omega
  clear hst hF hff hcO hB4 hLv hN hbt0
  cases hfit : nFit s h (K - 65).toNat
  · have hgt : (h : Int) - 1 < LV := by
      have : ¬ LV < (h : Nat) := fun e => by rw [hfit0.1 e] at hfit; cases hfit
      omega
    have HR : Hid (R = (⟨#[]⟩, 10)) := hide (by rw [unhide HMK, if_pos hfit])
    clear hfit hfit0 HMK
    go_quiet (fail)
    go_wp2
    go_ret2
    exact ⟨ret_str (by rw [unhide HR]) (by rw [unhide HR]), below_drewN (unhide HB4) _⟩
  · have hgt : LV ≤ (h : Int) - 1 := by have := hfit0.2 hfit; omega
    have HR : Hid (R = if 2000 < (made s c h m).2.length then (⟨#[]⟩, 11) else (strOfNums (made s c h m).2, 0)) := hide (by rw [unhide HMK, if_neg (by rw [hfit]; decide)])
    have HFI := hide hfit
    clear hfit hfit0 HMK
    go_quiet (fail)
    go_wp2_with fail
    have v : Er s c m := ⟨unhide G, unhide TN, unhide H2, by omega, hm1, hm2⟩
    have hK4 := (unhide K1).below (below_drewN (Below.refl _ _) nq)
    have hcall := rfac_any v (by omega) (rexpr_all (b := b) (B := b) (g := w1.heap.size) v (full s) (by omega)) (h : Int) (.pointer none) 0 0 h 0 [] _ hK4 (.inl ⟨by rw [unhide HBT]; exact unhide HCO, rfl⟩) rfl hh2 (unhide HHF) (by rw [unhide HFF]; exact unhide HFI) (Nat.le_refl _) (full_dep hh2) (by simp) (by simp)
    rw [unhide HBT] at hcall
    refine hcall.mono ?_
    rintro e w5 ⟨rfl, a5, T5, hk5, hb5, he5, ha5, hT5⟩
    have hbel5 : Below w.heap.size w w5 := (below_drewN (unhide HB4) nq).trans (hb5.below hw3 (by simp; omega))
    have he : Ends [] (made s c h m) a5 T5 := he5
    obtain ⟨_, he1, he2⟩ := he
    simp only [List.length_nil, Nat.zero_add, List.nil_append] at he1 he2
    have c30 := hk5.out
    have hsz := strs_size T5
    have HB5 := hide hbel5
    by_cases hbig : 2000 < (made s c h m).2.length
    · have hTb := he2 hbig
      have hbig' : decide ((2000 : Int) < (T5.length : Int)) = true := by simp; omega
      have HR2 : Hid (R = (⟨#[]⟩, 11)) := hide (by rw [unhide HR, if_pos hbig])
      clear he1 he2 he5 hk5 hb5 hbel5 HR hcall hK4
      go_wp2
      go_ret2
      exact ⟨ret_str (by rw [unhide HR2]) (by rw [unhide HR2]), unhide HB5⟩
    · obtain ⟨_, hTe⟩ := he1 (by omega)
      have hbig' : decide ((2000 : Int) < (T5.length : Int)) = false := by rw [hTe]; simp; omega
      have HR2 : Hid (R = (strOfNums T5, 0)) := hide (by rw [unhide HR, if_neg hbig, hTe])
      clear he1 he2 he5 hk5 hb5 hbel5 HR hTe hcall hK4
      go_wp2
      go_ret2
      exact ⟨ret_str (by rw [unhide HR2]) (by rw [unhide HR2]), unhide HB5⟩

set_option maxHeartbeats 400000 in
set_option maxRecDepth 1000000 in
theorem refMake_any {s c : ByteArray} (h m : Int) (w : World) (hs : s.size ≤ maxLen) (hc : c.size ≤ maxLen) :
    Calls Tryz.prog 34 #[.string s, .string c, .int .i64 h, .int .i64 m] w fun e w' => e = .returned (.tuple #[.string (mk s c h m).1, .int .i64 (mk s c h m).2]) ∧ Below w.heap.size w w' := by
  by_cases hk : (chk s).1 = 0
  · have e : mk s c h m = mkR s c h m := by unfold mk; rw [if_neg (by simp [hk])]
    rw [e]
    have h' : ((chk s).1 != 0) = false := by simp [hk]
    by_cases h1 : 2000 < c.size ∨ digs c = false
    · have e : mkR s c h m = (⟨#[]⟩, 8) := by unfold mkR; rw [if_pos h1]
      rw [e]
      by_cases h2 : 2000 < c.size
      · have hd : decide ((2000 : Int) < (c.size : Int)) = true := by simp; omega
        clear e h1 hk
        go_enter Tryz.func34, Tryz.ntmps34
        go_wp2_with fail
        refine (refCheck_any _ _ hs).mono ?_
        rintro e w1 ⟨rfl, hb1⟩
        go_wp2_with (first
          | (go_at_call 62; refine (digits_any _ _ hc).mono ?_; rintro e w' ⟨rfl, hw⟩; replace hw := hw.symm; subst hw)
          | fail)
        go_ret2
        exact ⟨rfl, hb1⟩
      · have hd : decide ((2000 : Int) < (c.size : Int)) = false := by simp; omega
        have H2 : Hid (digs c = false) := hide (h1.resolve_left h2)
        clear e h1 hk
        go_enter Tryz.func34, Tryz.ntmps34
        go_wp2_with fail
        refine (refCheck_any _ _ hs).mono ?_
        rintro e w1 ⟨rfl, hb1⟩
        go_wp2_with (first
          | (go_at_call 62; refine (digits_any _ _ hc).mono ?_; rw [unhide H2]; rintro e w' ⟨rfl, hw⟩; replace hw := hw.symm; subst hw)
          | fail)
        go_ret2
        exact ⟨rfl, hb1⟩
    · have h2 : digs c = true := by
        cases e : digs c
        · exact absurd (.inr e) h1
        · rfl
      have h3 : ¬ 2000 < c.size := fun e => h1 (.inl e)
      by_cases hl : 1 ≤ h ∧ h ≤ 9 ∧ 1 ≤ m ∧ m ≤ 5
      · obtain ⟨k, rfl⟩ : ∃ k : Nat, h = k := ⟨h.toNat, by omega⟩
        obtain ⟨j, rfl⟩ : ∃ j : Nat, m = j := ⟨m.toNat, by omega⟩
        exact refMake_ok hk k j w hs hc h3 h2 (by omega) (by omega)
      · have e : mkR s c h m = (⟨#[]⟩, 9) := by unfold mkR; rw [if_neg h1, if_pos hl]
        rw [e]
        have hd : decide ((2000 : Int) < (c.size : Int)) = false := by simp; omega
        have H2 := hide h2
        have hlim : (decide (h < 1) || decide (9 < h) || decide (m < 1) || decide (5 < m)) = true := by
          simp only [Bool.or_eq_true, decide_eq_true_eq]; omega
        clear e h1 hk h2 h3
        go_enter Tryz.func34, Tryz.ntmps34
        go_wp2_with fail
        refine (refCheck_any _ _ hs).mono ?_
        rintro e w1 ⟨rfl, hb1⟩
        go_wp2_with (first
          | (go_at_call 62; refine (digits_any _ _ hc).mono ?_; rw [unhide H2]; rintro e w' ⟨rfl, hw⟩; replace hw := hw.symm; subst hw)
          | fail)
        all_goals first
          | (go_ret2; exact ⟨rfl, hb1⟩)
          | (exfalso; simp_all; omega)
  · have e : mk s c h m = (⟨#[]⟩, (chk s).1) := by unfold mk; rw [if_pos hk]
    rw [e]
    have h' : ((chk s).1 != 0) = true := by simp [hk]
    clear hk e
    go_enter Tryz.func34, Tryz.ntmps34
    go_wp2_with fail
    refine (refCheck_any _ _ hs).mono ?_
    rintro e w1 ⟨rfl, hb1⟩
    go_wp2
    go_ret2
    exact ⟨rfl, hb1⟩
end Go.Proofs.YtnfaiaoipeholaaGreat
