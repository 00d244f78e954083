/- The law Wrapped, walked: the whole. -/
import Derived.Test.YtnfaiaoipeholaaGreatWpKWrap
namespace Go.Proofs.YtnfaiaoipeholaaGreat
open Go.RowKit
theorem wider_eq (s : ByteArray) (f : Int) (h : 0 < s.size) : strOfNums [f] ++ (⟨#[61]⟩ : ByteArray) ++ s.extract 0 1 ++ (⟨#[59]⟩ : ByteArray) ++ s = strOfNums (wdr f s) := by
  have e1 : (⟨#[61]⟩ : ByteArray) = strOfNums [61] := rfl
  have e2 : (⟨#[59]⟩ : ByteArray) = strOfNums [59] := rfl
  have e3 : s.extract 0 1 = strOfNums [bt s (0 : Nat)] := by rw [bt_at s 0 h]; exact piece_one s h
  rw [e1, e2, e3]
  conv => lhs; rw [← strs_seg s]
  rw [kstrs_append, kstrs_append, kstrs_append, kstrs_append]
  rw [strs_seg]
  rfl
theorem wtree_eq (t : ByteArray) (f : Int) : strOfNums [f] ++ (⟨#[40, 48]⟩ : ByteArray) ++ t ++ (⟨#[41]⟩ : ByteArray) = strOfNums (wtr f t) := by
  have e1 : (⟨#[40, 48]⟩ : ByteArray) = strOfNums [40, 48] := rfl
  have e2 : (⟨#[41]⟩ : ByteArray) = strOfNums [41] := rfl
  rw [e1, e2]
  conv => lhs; rw [← strs_seg t]
  rw [kstrs_append, kstrs_append, kstrs_append]
  unfold wtr
  simp
theorem wdr_size (s : ByteArray) (f : Int) : (strOfNums (wdr f s)).size = s.size + 4 := by rw [strOfNums_size]; simp [wdr, seg_len0]
theorem wtr_size (t : ByteArray) (f : Int) : (strOfNums (wtr f t)).size = t.size + 4 := by rw [strOfNums_size]; simp [wtr, seg_len0]
/-- what Wrapped's calls answer -/
structure Wpd (s T S' U : ByteArray) (h m : Int) (n : Nat) (C : ByteArray) : Prop where
  h1 : hgt s T = ((n : Int), 0)
  h2 : hgt S' U = ((n : Int) + 1, 0)
  r1 : rcl s T h m = (C, 0)
  r2 : rcl S' U (h + 1) m = (C, 0)
  m2 : mk S' C (h + 1) m = (U, 0)
  wd_ : wd U = wd T
theorem wpd_of {s T C D : ByteArray} {f : Int} {a b n : Nat} (ha : a ≤ 7) (hb : b ≤ 4) (hR : Rcd s T (1 + (a : Int)) (1 + (b : Int)) n C D) (hf : cN f = true) (hn : ∀ i : Nat, bt s i ≠ f) (hz : s.size + 4 ≤ 300) (hz2 : T.size + 4 ≤ 2000) :
    Wpd s T (strOfNums (wdr f s)) (strOfNums (wtr f T)) (1 + (a : Int)) (1 + (b : Int)) n C := by
  have e1 : 1 + (a : Int) = ((1 + a : Nat) : Int) := by omega
  have e2 : 1 + (b : Int) = ((1 + b : Nat) : Int) := by omega
  have r1 := hR.r1
  rw [e1, e2] at r1
  obtain ⟨_, q1, q2, q3, q4⟩ := wrapped_ok (h := 1 + a) (m := 1 + b) (ahd_of hf hn) (tx_of (t := T) hf) hz hz2 (by omega) (by omega) hR.hh r1
  refine ⟨hR.hh, q1, hR.r1, ?_, ?_, q4⟩
  · rw [e1, e2]; exact q2
  · rw [e1, e2]; exact q3
set_option maxHeartbeats 1000000 in
set_option maxRecDepth 1000000 in
theorem wrapped_any (s : ByteArray) (ao : Option Addr) (len cap : Nat) (c1 c2 : Int) (w : World) (hs : s.size ≤ maxLen) (hN : Nums w ao len) (hc1 : Rng c1) (hc2 : Rng c2) :
    Calls Tryz.prog 8 #[.string s, .slice ao len cap, .int .i64 c1, .int .i64 c2] w fun e w' => e = .returned (.bool true) ∧ Below w.heap.size w w' := by
  obtain ⟨ch0⟩ := chr_some
  have : Inhabited Chr := ⟨ch0⟩
  have hp1 := pk_bd (c := c1) (n := 8) (by omega)
  have hp2 := pk_bd (c := c2) (n := 5) (by omega)
  obtain ⟨a, ha⟩ : ∃ a : Nat, pk c1 8 = a := ⟨(pk c1 8).toNat, by omega⟩
  obtain ⟨b, hb⟩ : ∃ b : Nat, pk c2 5 = b := ⟨(pk c2 5).toNat, by omega⟩
  have ha7 : a ≤ 7 := by omega
  have ha8 : a ≤ 8 := by omega
  have hb4 : b ≤ 4 := by omega
  have hs' := hs
  unfold maxLen at hs'
  have HN := hide hN
  have HA := hide ha
  have HB := hide hb
  have HC1 := hide hc1
  have HC2 := hide hc2
  clear hN ha hb hc1 hc2 hp1 hp2
  go_enter Tryz.func8, Tryz.ntmps8
  go_wp2_with fail
  refine (works_any _).mono ?_
  rintro e w1 ⟨rfl, hb1⟩
  go_wp2_with fail
  refine (pick_any _ _ _ (unhide HC1) (by omega)).mono ?_
  rw [unhide HA]
  rintro e w' ⟨rfl, hw⟩
  replace hw := hw.symm
  subst hw
  go_wp2_with fail
  refine (pick_any _ _ _ (unhide HC2) (by omega)).mono ?_
  rw [unhide HB]
  rintro e w' ⟨rfl, hw⟩
  replace hw := hw.symm
  subst hw
  have HN1 : Hid (Nums w1 ao len) := hide ((unhide HN).under hb1)
  go_wp2_with fail
  refine (made_int _ _ _ _ _ _ _ hs (unhide HN1) ha8 hb4).mono ?_
  intro e w2 ho
  obtain ⟨hb2, ⟨T, n, C, D, hR, rfl⟩ | rfl⟩ := outK_int ha8 hb4 ho
  · clear ho
    have tz := hR.tz
    have cz := hR.cz
    have tz' := tz
    unfold maxLen at tz'
    have hT0 : (hgt s T).2 = 0 := by rw [hR.hh]
    have hpos : 0 < s.size := (gram_of (hgt_whole hT0).1).pos
    have hs300 : s.size ≤ 300 := (gram_of (hgt_whole hT0).1).small
    have hT2 : T.size ≤ 2000 := hgt_small hT0
    have hn9 : n ≤ 9 := by have := hR.n2; omega
    have HR := hide hR
    have hbA := bnext hb1 hb2
    clear hR hT0 hb1 hb2
    go_wp2_with fail
    refine (fresh_any _ _ hs).mono ?_
    rintro e w' ⟨⟨f, rfl, hF⟩, hw⟩
    replace hw := hw.symm
    subst hw
    rcases hF with rfl | ⟨hf1, hf2⟩
    · go_wp2
      go_ret
      exact ⟨rfl, hbA⟩
    · have hfv : 65 ≤ f ∧ f ≤ 90 := by simpa [cN] using hf1
      obtain ⟨hfa, hfb⟩ := hfv
      have hf0 : (f == 0) = false := by simp; omega
      by_cases hz : s.size + 4 ≤ 300
      · by_cases hz2 : T.size + 4 ≤ 2000
        · have HW := hide (wpd_of ha7 hb4 (unhide HR) hf1 hf2 hz hz2)
          have hcv := kconv_one w2 f
          have hcd := kconv_drew w2 f
          have hz3 : (strOfNums [f]).size = 1 := by rw [strOfNums_size]; rfl
          have hz4 : (⟨#[61]⟩ : ByteArray).size = 1 := rfl
          have hz5 : (⟨#[59]⟩ : ByteArray).size = 1 := rfl
          have hz6 : (⟨#[40, 48]⟩ : ByteArray).size = 2 := rfl
          have hz7 : (⟨#[41]⟩ : ByteArray).size = 1 := rfl
          have HE1 := hide (wider_eq s f hpos)
          have HE2 := hide (wtree_eq T f)
          clear hf1 hf2
          have hbB : Hid (∀ o, Below w.heap.size w (w2.alloc o)) := hide (fun o => hbA.alloc hbA.size o)
          obtain ⟨k1, k2, k3, k4, k5, k6⟩ := unhide HW
          have K1 := hide k1
          have K2 := hide k2
          have K3 := hide k3
          have K4 := hide k4
          have K5 := hide k5
          have K6 := hide k6
          have sz' : (strOfNums (wdr f s)).size ≤ maxLen := by rw [wdr_size]; unfold maxLen; omega
          have uz' : (strOfNums (wtr f T)).size ≤ maxLen := by rw [wtr_size]; unfold maxLen; omega
          clear k1 k2 k3 k4 k5 k6 HW HR
          go_wp2_with fail
          refine (height_any _ hs tz).mono ?_
          rw [unhide K1, unhide HE1, unhide HE2]
          generalize strOfNums (wdr f s) = S' at *
          generalize strOfNums (wtr f T) = U at *
          rintro e w3 ⟨rfl, hb3⟩
          have hbC := (unhide hbB _).trans (hb3.mono (unhide hbB _).size)
          clear hb3 hbB hcv hcd hz3 hz4 hz5 hz6 hz7 HE1 HE2
          generalize World.alloc _ _ = w2b at *
          go_wp2_with fail
          refine (height_any _ sz' uz').mono ?_
          rw [unhide K2]
          rintro e w4 ⟨rfl, hb4'⟩
          go_wp2_with fail
          refine (recall_any _ _ _ hs tz).mono ?_
          rw [unhide K3]
          rintro e w5 ⟨rfl, hb5⟩
          go_wp2_with fail
          refine (recall_any _ _ _ sz' uz').mono ?_
          rw [unhide K4]
          rintro e w6 ⟨rfl, hb6⟩
          go_wp2_with fail
          refine (make_any _ _ _ sz' cz).mono ?_
          rw [unhide K5]
          rintro e w7 ⟨rfl, hb7⟩
          have hbD := bnext (bnext (bnext (bnext hbC hb4') hb5) hb6) hb7
          clear hbC hb4' hb5 hb6 hb7
          have hwz : (wd T).size ≤ maxLen := Nat.le_trans (wd_size T) tz
          go_wp2_with fail
          refine (word_any T _ tz).mono ?_
          rintro e w' ⟨rfl, hw⟩
          replace hw := hw.symm
          subst hw
          by_cases hz9 : (wd T).size ≤ 20
          · go_wp2_with fail
            refine (parse_any _ sz' hwz).mono ?_
            rintro e w8 ⟨rfl, hb8, hf8⟩
            have hUw := unhide K6
            have q1 : (prs S' (wd T)).2 = 0 := by
              have := prs_has (s := S') (t := U) (by rw [hUw]; exact hf8) (by rw [hUw]; exact hz9) (by rw [unhide K2])
              rw [hUw] at this; exact this
            rcases prs_said hf8 with ⟨q2, _⟩ | ⟨_, q3, q4, _⟩
            · exact absurd q1 q2
            obtain ⟨P, hP⟩ : ∃ P, prs S' (wd T) = (P, 0) := ⟨_, by rw [← q1]⟩
            rw [hP] at q3 q4 ⊢
            simp only at q3 q4
            have hpz : P.size ≤ maxLen := by unfold maxLen; omega
            have KW := hide q4
            clear q1 q3 q4 hP hf8 hUw K2 K6
            generalize wd T = V at *
            go_wp2_with fail
            refine (word_any P _ hpz).mono ?_
            rw [unhide KW]
            rintro e w' ⟨rfl, hw⟩
            replace hw := hw.symm
            subst hw
            go_wp2
            go_ret
            exact ⟨rfl, bnext hbD hb8⟩
          · generalize wd T = V at *
            go_wp2
            go_ret
            exact ⟨rfl, hbD⟩
        · go_wp2
          go_ret
          exact ⟨rfl, hbA⟩
      · go_wp2
        go_ret
        exact ⟨rfl, hbA⟩
  · clear ho
    go_wp2
    go_ret
    exact ⟨rfl, bnext hb1 hb2⟩
end Go.Proofs.YtnfaiaoipeholaaGreat
