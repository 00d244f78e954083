/- RMakeC RMakeE RStart -/
import Derived.Test.YtnfaiaoipeholaaGreatDoorAa14
import Derived.Test.YtnfaiaoipeholaaGreatDoorAa12
import Derived.Great.BuildSlice
namespace Go.Proofs.YtnfaiaoipeholaaGreatDoor
open Go.RowKit
section
variable {b : Nat} {s c : ByteArray} {m B g : Nat}

set_option maxHeartbeats 1000000 in
set_option maxRecDepth 1000000 in
theorem rbr_lst (v : Er s c m) {n : Nat} (hn : n ≤ 5000) (hE : SaidR b s c m B g n) (lq : Int) (p k f l a : Nat) (T : List Int) (w : World) (hk : Rm w b s c m B g a T) (hEA : EA w s k (fun j => j < B) p (f + 1)) (hl : lq = l) (hl9 : l ≤ 9) (hK : bt s f = 123) (hx : expFit s (nFit s l) (f + 1) = true)
    (hfl : f < s.size) (hd : dep s l (f + 1) < n) (hT : T.length ≤ 7000000) (ha : a ≤ T.length) :
    Calls Tryz.prog 36 #[.pointer (some ⟨b, 0, none⟩), .agg #[.int .u8 (bt s f), .pointer (some ⟨p, 0, none⟩)], .int .i64 lq] w fun e w' => OutR b s c m B g w T (genF s c m (genE s c m n) l f a) (max T.length (2001 + 1000 * n) + 3) e w' := by
  subst hl
  generalize hR : genF s c m (genE s c m n) l f a = R
  have h2 : cN (bt s f) = false := by rw [hK]; decide
  have hm1 := v.hm.1
  have hm5 := v.hm.2
  have hcnt : cnt s m l f = m + 1 := by unfold cnt; rw [hK]; rw [if_pos hx]; simp [grt, few]
  unfold genF genB at hR
  rw [if_neg (by simp [h2]), if_pos (by rw [hK]; decide), hcnt, hK] at hR
  have H10 := hide (v.ten.sub f (by rw [hK]; decide))
  have hfew : few 123 = 0 := by decide
  have hWlt := wayN_lt c a (m + 1) (by omega)
  have hAle := wayA_le a (m + 1)
  generalize hWE : wayN c a (m + 1) = W at *
  generalize hAE : wayA a (m + 1) = A at *
  have HWE := hide hWE
  have HAE := hide hAE
  have hcC : cC 123 = 125 := by decide
  rw [hfew, hcC] at hR
  have hnm := nms_lows s 27
  have hH := low_nFit v.gram (l := l) (by omega) (f + 1)
  have hHb := low_bd (s := s) hnm (f + 1)
  have hLW := low_all v.gram.small hnm (B := B) k
  have hblt := hk.lt
  have hBb := hk.hB
  rw [hK]
  have hcv := conv_one (w.alloc (.cells #[.int .u8 123, .pointer (some ⟨p, 0, none⟩)] 67)) 123
  rw [World.size_alloc] at hcv
  obtain ⟨s1, s2, s3, s4⟩ := fac_start w 123 (.pointer (some ⟨p, 0, none⟩)) 67 5
  have HK := hide (hk.below s1)
  have HS1 := hide s1
  have HR := hide hR
  have HD := hide hd
  have HEA := hide hEA
  have hlow : low s (lowsF s 27) (f + 1) ≤ (l : Nat) := by exact hH.2 hx
  obtain ⟨nm, hnmE⟩ : ∃ nm, nm = lowsF s 27 := ⟨_, rfl⟩
  rw [← hnmE] at hlow hHb hLW hnm
  generalize hlv : low s nm (f + 1) = H at *
  have HLV := hide hlv
  have HNM := hide hnmE
  have HLW := hide hLW
  clear hR hk s1 hd hcnt hK hH hEA hlv h2 hnmE hLW hWE hAE
  go_enter Tryz.func36, Tryz.ntmps36
  go_wp2_with (first
    | (go_at_call 31; refine (name_any _ _).mono ?_; rintro e w' ⟨rfl, hw⟩; replace hw := hw.symm; subst hw; rw [show cN 123 = false by decide])
    | fail)
  refine (put_any (unhide HK) (by omega) [123] _ rfl (by simp)).mono ?_
  rintro e w1 ⟨rfl, hk1, hb1⟩
  have e0 := (hb1.cell (g := w.heap.size) (o := 0) (by omega) (by omega)).trans s2
  have e1 := (hb1.cell (g := w.heap.size) (o := 1) (by omega) (by omega)).trans s3
  have hz1 := hb1.size
  have HK1 := hide hk1
  have HB1 := hide ((But.of (b := b) (unhide HS1)).trans hb1)
  have HEA1 := hide (((unhide HEA).below (unhide HS1) (by omega)).but hb1 hBb (by omega))
  have HRG : Hid (w1.rangeAt b 1 (nms nm)) := hide (by rw [unhide HNM]; exact hk1.nam)
  have hw1 : B ≤ w1.heap.size := by omega
  clear hcv s2 s3 hk1 hb1
  go_wp2_with fail
  have hu := Tryz.underlying57
  have hin : (Tryz.prog.info? 57).map (·.size) = some (nms nm).length := by rw [nms_len]; exact Tryz.infoArr
  have hnl := nms_len nm
  have hno := nms_one nm
  go_region_held (fun w' => Below w1.heap.size w1 w' ∧ w'.cell? ⟨w.heap.size, 1, none⟩ = some (.pointer (some ⟨p, 0, none⟩)) ∧ w'.rangeAt b 1 (nms nm)) (first | exact keepO ((Below.refl _ _).drew) e1 (unhide HRG) | exact keepO (((Below.refl w1.heap.size w1).drew).trans hb2) e1 (unhide HRG)) (first | (go_at_call 70; refine (unhide HLW p (f + 1) _ ?_ ?_).mono ?_; exact hw1; exact (unhide HEA1).below ((Below.refl _ _).drew) hw1; rw [unhide HLV]; rintro e w2 ⟨rfl, hb2⟩))
  have hb2' : Below w1.heap.size w1 w2 := ((Below.refl _ _).drew).trans hb2
  have d0 := (hb2'.cell (p := ⟨w.heap.size, 0, none⟩) (by show w.heap.size < _; omega)).trans e0
  have d1 := (hb2'.cell (p := ⟨w.heap.size, 1, none⟩) (by show w.heap.size < _; omega)).trans e1
  have HK2 := hide ((unhide HK1).below hb2')
  have d27 := (unhide HK2).mst
  have HB2 := hide ((unhide HB1).trans (But.of hb2'))
  have HEA2 := hide ((unhide HEA1).below hb2' hw1)
  have hz2 := hb2'.size
  clear hu hin hnl hno hb2 hb2' e0 e1 HK1 HB1 HEA1 HRG
  go_wp2_with (first
    | (go_at_call 73; refine (way_any (unhide HK2) v.dg (by omega) _ (m + 1) (by omega) (by omega)).mono ?_; rw [unhide HWE, unhide HAE]; rintro e w3 ⟨rfl, hk3, hb3⟩; replace hk3 := hide hk3; replace hb3 := hide hb3)
    | fail)
  have f0 := (unhide hb3).cell (g := w.heap.size) (o := 0) (by omega) (by omega) |>.trans d0
  have f1 := (unhide hb3).cell (g := w.heap.size) (o := 1) (by omega) (by omega) |>.trans d1
  have hz3 := (unhide hb3).size
  have HB3 := hide ((unhide HB2).trans (unhide hb3))
  have HEA3 := hide ((unhide HEA2).but (unhide hb3) hBb (by omega))
  clear d0 d1 d27 HB2 HEA2 HK2 hb3
  have HPUT : Hid (Ends T (a, [123]) a (T ++ [123])) := hide (Ends.put T [123] a)
  go_loopw [10] (fun iv wr => ∃ (i a1 : Nat) (T1 : List Int), iv = .int .i64 i ∧ i ≤ 0 + W ∧ Hid (Rm wr b s c m B g a1 T1) ∧ Hid (But b w3 wr) ∧ Hid (Ends (T ++ [123]) (elsG (genE s c m n l (f + 1)) A i) a1 T1) ∧ a1 ≤ T1.length ∧ T1.length ≤ max (T.length + 1) (2001 + 1000 * n)) (fun iv _ => 30 - (intOf iv).toNat)
  case atStart => exact ⟨0, A, T ++ [123], by go_num, Nat.zero_le _, hk3, hide (But.refl _ _), hide (Ends.nil _ A), by simp; omega, by simp; omega⟩
  case round =>
    obtain ⟨i, a1, T1, rfl, hic, hM, hB, hEn, ha1, hT1⟩ := hrel
    have c30 := (unhide hM).out
    have hsz := strs_size T1
    have g0 := (unhide hB).cell (g := w.heap.size) (o := 0) (by omega) (by omega) |>.trans f0
    have g1 := (unhide hB).cell (g := w.heap.size) (o := 1) (by omega) (by omega) |>.trans f1
    have hzr := (unhide hB).size
    by_cases hlt : i < 0 + W
    · by_cases hbig : 2000 < T1.length
      · have HE : Hid (Ends T R a1 (T1 ++ [125])) := hide (by
          obtain ⟨r, hr⟩ := elsG_pre' (genE s c m n l (f + 1)) A i (0 + W) (by omega)
          have h1 := (unhide hEn).cut hbig (elsG (genE s c m n l (f + 1)) A (0 + W)).1 r
          have h2 := h1.seq (q := fun a => (a, [125])) (Ends.put T1 [125] a1)
          refine (unhide HPUT).seq' (q := fun _ => ((elsG (genE s c m n l (f + 1)) A (0 + W)).1, ((elsG (genE s c m n l (f + 1)) A i).2 ++ r) ++ [125])) h2 ?_
          rw [← unhide HR, hr]; rfl)
        have hbig' : (2000 : Int) < ((strOfNums T1).size : Int) := by omega
        have hcv := conv_one wr 125
        have HKa := hide ((unhide hM).below ((Below.refl _ _).alloc (Nat.le_refl _) (.cells #[.int .u8 125] 5)))
        have HBa : Hid (But b w (wr.alloc (.cells #[.int .u8 125] 5))) := hide (((unhide HB3).trans (unhide hB)).alloc _)
        clear hEn
        go_wp2_with (first
          | (go_at_call 74; refine (rclosing_any _ _).mono ?_; rw [hcC]; rintro e w' ⟨rfl, hw⟩; replace hw := hw.symm; subst hw)
          | fail)
        refine (put_any (unhide HKa) (by omega) [125] _ rfl (by simp)).mono ?_
        rintro e w5 ⟨rfl, hk5, hb5⟩
        have HK5 := hide hk5
        have HB5 := hide ((unhide HBa).trans hb5)
        clear hk5 hb5
        go_wp2
        go_end0
        exact ⟨rfl, a1, _, unhide HK5, unhide HB5, unhide HE, by simp; omega, by simp; omega⟩
      · have hbig' : ((strOfNums T1).size : Int) ≤ 2000 := by omega
        have HEr := hide ((unhide HEA3).but (unhide hB) hBb (by omega))
        by_cases hi0 : i = 0
        · subst hi0
          go_wp2_with fail
          refine (hE _ p (f + 1) k l a1 _ _ (unhide hM) (unhide HEr) rfl (by omega) (unhide H10) hl9 hx (unhide HD) (by omega) ha1).mono ?_
          rintro e w4 ⟨rfl, a4, T4, hk4, hb4, he4, ha4, hT4⟩
          have HK4 := hide hk4
          have HB4 := hide ((unhide hB).trans hb4)
          have HE4 := hide ((unhide hEn).seq (q := fun a => ((genE s c m n l (f + 1) a).1, [] ++ (genE s c m n l (f + 1) a).2)) (by simpa using he4))
          clear hk4 hb4 he4 hEn
          go_wp2
          go_roundw
          case rel => exact ⟨1, a4, T4, by go_num, by omega, HK4, HB4, HE4, ha4, by omega⟩
          case measure => simp [intOf]
        · have hi0' : decide ((i : Int) > 0) = true := by simp; omega
          go_wp2_with fail
          refine (put_any (unhide hM) (by omega) [44] _ rfl (by simp)).mono ?_
          rintro e w5 ⟨rfl, hk5, hb5⟩
          have g15 := hb5.cell (g := w.heap.size) (o := 1) (by omega) (by omega) |>.trans g1
          have HEr5 := hide ((unhide HEr).but hb5 hBb (by omega))
          have HK5 := hide hk5
          have HB5 := hide ((unhide hB).trans hb5)
          clear hk5 hb5 g0 g1 c30
          go_wp2_with fail
          refine (hE _ p (f + 1) k l a1 _ _ (unhide HK5) (unhide HEr5) rfl (by omega) (unhide H10) hl9 hx (unhide HD) (by simp; omega) (by simp; omega)).mono ?_
          rintro e w4 ⟨rfl, a4, T4, hk4, hb4, he4, ha4, hT4⟩
          simp only [List.length_append, List.length_cons, List.length_nil] at hT4
          have HK4 := hide hk4
          have HB4 := hide ((unhide HB5).trans hb4)
          have HE4 : Hid (Ends (T ++ [123]) (elsG (genE s c m n l (f + 1)) A (i + 1)) a4 T4) := hide (by
            have h1 := (Ends.put T1 [44] a1).seq (q := genE s c m n l (f + 1)) he4
            refine (unhide hEn).seq' (q := fun a => ((genE s c m n l (f + 1) a).1, [44] ++ (genE s c m n l (f + 1) a).2)) h1 ?_
            simp only [elsG]; rw [if_neg hi0])
          clear hk4 hb4 he4 hEn
          go_wp2
          go_roundw
          case rel => exact ⟨i + 1, a4, T4, by go_num, by omega, HK4, HB4, HE4, ha4, by omega⟩
          case measure => simp [intOf]; omega
    · have hic' : i = 0 + W := by omega
      subst hic'
      have HE : Hid (Ends T R a1 (T1 ++ [125])) := hide (by
        have h2 := (unhide hEn).seq (q := fun a => (a, [125])) (Ends.put T1 [125] a1)
        refine (unhide HPUT).seq' (q := fun _ => ((elsG (genE s c m n l (f + 1)) A (0 + W)).1, (elsG (genE s c m n l (f + 1)) A (0 + W)).2 ++ [125])) h2 ?_
        rw [← unhide HR]; rfl)
      have hcv := conv_one wr 125
      have HKa := hide ((unhide hM).below ((Below.refl _ _).alloc (Nat.le_refl _) (.cells #[.int .u8 125] 5)))
      have HBa : Hid (But b w (wr.alloc (.cells #[.int .u8 125] 5))) := hide (((unhide HB3).trans (unhide hB)).alloc _)
      clear hEn
      go_wp2_with (first
        | (go_at_call 74; refine (rclosing_any _ _).mono ?_; rw [hcC]; rintro e w' ⟨rfl, hw⟩; replace hw := hw.symm; subst hw)
        | fail)
      refine (put_any (unhide HKa) (by omega) [125] _ rfl (by simp)).mono ?_
      rintro e w5 ⟨rfl, hk5, hb5⟩
      have HK5 := hide hk5
      have HB5 := hide ((unhide HBa).trans hb5)
      clear hk5 hb5
      go_wp2
      go_end0
      exact ⟨rfl, a1, _, unhide HK5, unhide HB5, unhide HE, by simp; omega, by simp; omega⟩

set_option maxHeartbeats 1000000 in
set_option maxRecDepth 1000000 in
theorem rbr_lstn (v : Er s c m) {n : Nat} (hn : n ≤ 5000) (_hE : SaidR b s c m B g n) (lq : Int) (p k f l a : Nat) (T : List Int) (w : World) (hk : Rm w b s c m B g a T) (hEA : EA w s k (fun j => j < B) p (f + 1)) (hl : lq = l) (hl9 : l ≤ 9) (hK : bt s f = 123) (hx : expFit s (nFit s l) (f + 1) = false)
    (_hfl : f < s.size) (hd : dep s l (f + 1) < n) (hT : T.length ≤ 7000000) (ha : a ≤ T.length) :
    Calls Tryz.prog 36 #[.pointer (some ⟨b, 0, none⟩), .agg #[.int .u8 (bt s f), .pointer (some ⟨p, 0, none⟩)], .int .i64 lq] w fun e w' => OutR b s c m B g w T (genF s c m (genE s c m n) l f a) (max T.length (2001 + 1000 * n) + 3) e w' := by
  subst hl
  generalize hR : genF s c m (genE s c m n) l f a = R
  have h2 : cN (bt s f) = false := by rw [hK]; decide
  have hm1 := v.hm.1
  have hm5 := v.hm.2
  have hcnt : cnt s m l f = 1 := by unfold cnt; rw [hK]; rw [if_neg (by simp [hx])]
  unfold genF genB at hR
  rw [if_neg (by simp [h2]), if_pos (by rw [hK]; decide), hcnt, hK] at hR
  have H10 := hide (v.ten.sub f (by rw [hK]; decide))
  have hfew : few 123 = 0 := by decide
  have hWlt := wayN_lt c a (1) (by omega)
  have hAle := wayA_le a (1)
  generalize hWE : wayN c a (1) = W at *
  generalize hAE : wayA a (1) = A at *
  have HWE := hide hWE
  have HAE := hide hAE
  have hcC : cC 123 = 125 := by decide
  rw [hfew, hcC] at hR
  have hnm := nms_lows s 27
  have hH := low_nFit v.gram (l := l) (by omega) (f + 1)
  have hHb := low_bd (s := s) hnm (f + 1)
  have hLW := low_all v.gram.small hnm (B := B) k
  have hblt := hk.lt
  have hBb := hk.hB
  rw [hK]
  have hcv := conv_one (w.alloc (.cells #[.int .u8 123, .pointer (some ⟨p, 0, none⟩)] 67)) 123
  rw [World.size_alloc] at hcv
  obtain ⟨s1, s2, s3, s4⟩ := fac_start w 123 (.pointer (some ⟨p, 0, none⟩)) 67 5
  have HK := hide (hk.below s1)
  have HS1 := hide s1
  have HR := hide hR
  have HD := hide hd
  have HEA := hide hEA
  have hlow : (l : Int) < low s (lowsF s 27) (f + 1) := by exact Int.not_le.1 (fun e => by rw [hH.1 e] at hx; cases hx)
  obtain ⟨nm, hnmE⟩ : ∃ nm, nm = lowsF s 27 := ⟨_, rfl⟩
  rw [← hnmE] at hlow hHb hLW hnm
  generalize hlv : low s nm (f + 1) = H at *
  have HLV := hide hlv
  have HNM := hide hnmE
  have HLW := hide hLW
  clear hR hk s1 hd hcnt hK hH hEA hlv h2 hnmE hLW hWE hAE
  go_enter Tryz.func36, Tryz.ntmps36
  go_wp2_with (first
    | (go_at_call 31; refine (name_any _ _).mono ?_; rintro e w' ⟨rfl, hw⟩; replace hw := hw.symm; subst hw; rw [show cN 123 = false by decide])
    | fail)
  refine (put_any (unhide HK) (by omega) [123] _ rfl (by simp)).mono ?_
  rintro e w1 ⟨rfl, hk1, hb1⟩
  have e0 := (hb1.cell (g := w.heap.size) (o := 0) (by omega) (by omega)).trans s2
  have e1 := (hb1.cell (g := w.heap.size) (o := 1) (by omega) (by omega)).trans s3
  have hz1 := hb1.size
  have HK1 := hide hk1
  have HB1 := hide ((But.of (b := b) (unhide HS1)).trans hb1)
  have HEA1 := hide (((unhide HEA).below (unhide HS1) (by omega)).but hb1 hBb (by omega))
  have HRG : Hid (w1.rangeAt b 1 (nms nm)) := hide (by rw [unhide HNM]; exact hk1.nam)
  have hw1 : B ≤ w1.heap.size := by omega
  clear hcv s2 s3 hk1 hb1
  go_wp2_with fail
  have hu := Tryz.underlying57
  have hin : (Tryz.prog.info? 57).map (·.size) = some (nms nm).length := by rw [nms_len]; exact Tryz.infoArr
  have hnl := nms_len nm
  have hno := nms_one nm
  go_region_held (fun w' => Below w1.heap.size w1 w' ∧ w'.cell? ⟨w.heap.size, 1, none⟩ = some (.pointer (some ⟨p, 0, none⟩)) ∧ w'.rangeAt b 1 (nms nm)) (first | exact keepO ((Below.refl _ _).drew) e1 (unhide HRG) | exact keepO (((Below.refl w1.heap.size w1).drew).trans hb2) e1 (unhide HRG)) (first | (go_at_call 70; refine (unhide HLW p (f + 1) _ ?_ ?_).mono ?_; exact hw1; exact (unhide HEA1).below ((Below.refl _ _).drew) hw1; rw [unhide HLV]; rintro e w2 ⟨rfl, hb2⟩))
  have hb2' : Below w1.heap.size w1 w2 := ((Below.refl _ _).drew).trans hb2
  have d0 := (hb2'.cell (p := ⟨w.heap.size, 0, none⟩) (by show w.heap.size < _; omega)).trans e0
  have d1 := (hb2'.cell (p := ⟨w.heap.size, 1, none⟩) (by show w.heap.size < _; omega)).trans e1
  have HK2 := hide ((unhide HK1).below hb2')
  have d27 := (unhide HK2).mst
  have HB2 := hide ((unhide HB1).trans (But.of hb2'))
  have HEA2 := hide ((unhide HEA1).below hb2' hw1)
  have hz2 := hb2'.size
  clear hu hin hnl hno hb2 hb2' e0 e1 HK1 HB1 HEA1 HRG
  go_wp2_with fail
  have hA1 : A = a := by rw [← unhide HAE]; rfl
  have hk3 : Hid (Rm w2 b s c m B g A (T ++ [123])) := hide (by rw [hA1]; exact unhide HK2)
  have hb3 : Hid (But b w2 w2) := hide (But.refl _ _)
  have f0 := (unhide hb3).cell (g := w.heap.size) (o := 0) (by omega) (by omega) |>.trans d0
  have f1 := (unhide hb3).cell (g := w.heap.size) (o := 1) (by omega) (by omega) |>.trans d1
  have hz3 := (unhide hb3).size
  have HB3 := hide ((unhide HB2).trans (unhide hb3))
  have HEA3 := hide ((unhide HEA2).but (unhide hb3) hBb (by omega))
  clear d0 d1 d27 HB2 HEA2 HK2 hb3
  have HPUT : Hid (Ends T (a, [123]) a (T ++ [123])) := hide (Ends.put T [123] a)
  go_loopw [10] (fun iv wr => ∃ (i a1 : Nat) (T1 : List Int), iv = .int .i64 i ∧ i ≤ 0 + W ∧ Hid (Rm wr b s c m B g a1 T1) ∧ Hid (But b w2 wr) ∧ Hid (Ends (T ++ [123]) (elsG (genE s c m n l (f + 1)) A i) a1 T1) ∧ a1 ≤ T1.length ∧ T1.length ≤ max (T.length + 1) (2001 + 1000 * n)) (fun iv _ => 30 - (intOf iv).toNat)
  case atStart => exact ⟨0, A, T ++ [123], by go_num, Nat.zero_le _, hk3, hide (But.refl _ _), hide (Ends.nil _ A), by simp; omega, by simp; omega⟩
  case round =>
    obtain ⟨i, a1, T1, rfl, hic, hM, hB, hEn, ha1, hT1⟩ := hrel
    have c30 := (unhide hM).out
    have hsz := strs_size T1
    have g0 := (unhide hB).cell (g := w.heap.size) (o := 0) (by omega) (by omega) |>.trans f0
    have g1 := (unhide hB).cell (g := w.heap.size) (o := 1) (by omega) (by omega) |>.trans f1
    have hzr := (unhide hB).size
    by_cases hlt : i < 0 + W
    · omega
    · have hic' : i = 0 + W := by omega
      subst hic'
      have HE : Hid (Ends T R a1 (T1 ++ [125])) := hide (by
        have h2 := (unhide hEn).seq (q := fun a => (a, [125])) (Ends.put T1 [125] a1)
        refine (unhide HPUT).seq' (q := fun _ => ((elsG (genE s c m n l (f + 1)) A (0 + W)).1, (elsG (genE s c m n l (f + 1)) A (0 + W)).2 ++ [125])) h2 ?_
        rw [← unhide HR]; rfl)
      have hcv := conv_one wr 125
      have HKa := hide ((unhide hM).below ((Below.refl _ _).alloc (Nat.le_refl _) (.cells #[.int .u8 125] 5)))
      have HBa : Hid (But b w (wr.alloc (.cells #[.int .u8 125] 5))) := hide (((unhide HB3).trans (unhide hB)).alloc _)
      clear hEn
      go_wp2_with (first
        | (go_at_call 74; refine (rclosing_any _ _).mono ?_; rw [hcC]; rintro e w' ⟨rfl, hw⟩; replace hw := hw.symm; subst hw)
        | fail)
      refine (put_any (unhide HKa) (by omega) [125] _ rfl (by simp)).mono ?_
      rintro e w5 ⟨rfl, hk5, hb5⟩
      have HK5 := hide hk5
      have HB5 := hide ((unhide HBa).trans hb5)
      clear hk5 hb5
      go_wp2
      go_end0
      exact ⟨rfl, a1, _, unhide HK5, unhide HB5, unhide HE, by simp; omega, by simp; omega⟩

set_option maxHeartbeats 1000000 in
set_option maxRecDepth 1000000 in
theorem rbr_ne (v : Er s c m) {n : Nat} (hn : n ≤ 5000) (hE : SaidR b s c m B g n) (lq : Int) (p k f l a : Nat) (T : List Int) (w : World) (hk : Rm w b s c m B g a T) (hEA : EA w s k (fun j => j < B) p (f + 1)) (hl : lq = l) (hl9 : l ≤ 9) (hK : bt s f = 60) (hx : expFit s (nFit s l) (f + 1) = true)
    (hfl : f < s.size) (hd : dep s l (f + 1) < n) (hT : T.length ≤ 7000000) (ha : a ≤ T.length) :
    Calls Tryz.prog 36 #[.pointer (some ⟨b, 0, none⟩), .agg #[.int .u8 (bt s f), .pointer (some ⟨p, 0, none⟩)], .int .i64 lq] w fun e w' => OutR b s c m B g w T (genF s c m (genE s c m n) l f a) (max T.length (2001 + 1000 * n) + 3) e w' := by
  subst hl
  generalize hR : genF s c m (genE s c m n) l f a = R
  have h2 : cN (bt s f) = false := by rw [hK]; decide
  have hm1 := v.hm.1
  have hm5 := v.hm.2
  have hcnt : cnt s m l f = m := by unfold cnt; rw [hK]; rw [if_pos hx]; simp [grt, few]; omega
  unfold genF genB at hR
  rw [if_neg (by simp [h2]), if_pos (by rw [hK]; decide), hcnt, hK] at hR
  have H10 := hide (v.ten.sub f (by rw [hK]; decide))
  have hfew : few 60 = 1 := by decide
  have hWlt := wayN_lt c a (m) (by omega)
  have hAle := wayA_le a (m)
  generalize hWE : wayN c a (m) = W at *
  generalize hAE : wayA a (m) = A at *
  have HWE := hide hWE
  have HAE := hide hAE
  have hcC : cC 60 = 62 := by decide
  rw [hfew, hcC] at hR
  have hnm := nms_lows s 27
  have hH := low_nFit v.gram (l := l) (by omega) (f + 1)
  have hHb := low_bd (s := s) hnm (f + 1)
  have hLW := low_all v.gram.small hnm (B := B) k
  have hblt := hk.lt
  have hBb := hk.hB
  rw [hK]
  have hcv := conv_one (w.alloc (.cells #[.int .u8 60, .pointer (some ⟨p, 0, none⟩)] 67)) 60
  rw [World.size_alloc] at hcv
  obtain ⟨s1, s2, s3, s4⟩ := fac_start w 60 (.pointer (some ⟨p, 0, none⟩)) 67 5
  have HK := hide (hk.below s1)
  have HS1 := hide s1
  have HR := hide hR
  have HD := hide hd
  have HEA := hide hEA
  have hlow : low s (lowsF s 27) (f + 1) ≤ (l : Nat) := by exact hH.2 hx
  obtain ⟨nm, hnmE⟩ : ∃ nm, nm = lowsF s 27 := ⟨_, rfl⟩
  rw [← hnmE] at hlow hHb hLW hnm
  generalize hlv : low s nm (f + 1) = H at *
  have HLV := hide hlv
  have HNM := hide hnmE
  have HLW := hide hLW
  clear hR hk s1 hd hcnt hK hH hEA hlv h2 hnmE hLW hWE hAE
  go_enter Tryz.func36, Tryz.ntmps36
  go_wp2_with (first
    | (go_at_call 31; refine (name_any _ _).mono ?_; rintro e w' ⟨rfl, hw⟩; replace hw := hw.symm; subst hw; rw [show cN 60 = false by decide])
    | fail)
  refine (put_any (unhide HK) (by omega) [60] _ rfl (by simp)).mono ?_
  rintro e w1 ⟨rfl, hk1, hb1⟩
  have e0 := (hb1.cell (g := w.heap.size) (o := 0) (by omega) (by omega)).trans s2
  have e1 := (hb1.cell (g := w.heap.size) (o := 1) (by omega) (by omega)).trans s3
  have hz1 := hb1.size
  have HK1 := hide hk1
  have HB1 := hide ((But.of (b := b) (unhide HS1)).trans hb1)
  have HEA1 := hide (((unhide HEA).below (unhide HS1) (by omega)).but hb1 hBb (by omega))
  have HRG : Hid (w1.rangeAt b 1 (nms nm)) := hide (by rw [unhide HNM]; exact hk1.nam)
  have hw1 : B ≤ w1.heap.size := by omega
  clear hcv s2 s3 hk1 hb1
  go_wp2_with fail
  have hu := Tryz.underlying57
  have hin : (Tryz.prog.info? 57).map (·.size) = some (nms nm).length := by rw [nms_len]; exact Tryz.infoArr
  have hnl := nms_len nm
  have hno := nms_one nm
  go_region_held (fun w' => Below w1.heap.size w1 w' ∧ w'.cell? ⟨w.heap.size, 1, none⟩ = some (.pointer (some ⟨p, 0, none⟩)) ∧ w'.rangeAt b 1 (nms nm)) (first | exact keepO ((Below.refl _ _).drew) e1 (unhide HRG) | exact keepO (((Below.refl w1.heap.size w1).drew).trans hb2) e1 (unhide HRG)) (first | (go_at_call 70; refine (unhide HLW p (f + 1) _ ?_ ?_).mono ?_; exact hw1; exact (unhide HEA1).below ((Below.refl _ _).drew) hw1; rw [unhide HLV]; rintro e w2 ⟨rfl, hb2⟩))
  have hb2' : Below w1.heap.size w1 w2 := ((Below.refl _ _).drew).trans hb2
  have d0 := (hb2'.cell (p := ⟨w.heap.size, 0, none⟩) (by show w.heap.size < _; omega)).trans e0
  have d1 := (hb2'.cell (p := ⟨w.heap.size, 1, none⟩) (by show w.heap.size < _; omega)).trans e1
  have HK2 := hide ((unhide HK1).below hb2')
  have d27 := (unhide HK2).mst
  have HB2 := hide ((unhide HB1).trans (But.of hb2'))
  have HEA2 := hide ((unhide HEA1).below hb2' hw1)
  have hz2 := hb2'.size
  clear hu hin hnl hno hb2 hb2' e0 e1 HK1 HB1 HEA1 HRG
  go_wp2_with (first
    | (go_at_call 73; refine (way_any (unhide HK2) v.dg (by omega) _ (m) (rfl) (by omega)).mono ?_; rw [unhide HWE, unhide HAE]; rintro e w3 ⟨rfl, hk3, hb3⟩; replace hk3 := hide hk3; replace hb3 := hide hb3)
    | fail)
  have f0 := (unhide hb3).cell (g := w.heap.size) (o := 0) (by omega) (by omega) |>.trans d0
  have f1 := (unhide hb3).cell (g := w.heap.size) (o := 1) (by omega) (by omega) |>.trans d1
  have hz3 := (unhide hb3).size
  have HB3 := hide ((unhide HB2).trans (unhide hb3))
  have HEA3 := hide ((unhide HEA2).but (unhide hb3) hBb (by omega))
  clear d0 d1 d27 HB2 HEA2 HK2 hb3
  have HPUT : Hid (Ends T (a, [60]) a (T ++ [60])) := hide (Ends.put T [60] a)
  go_loopw [10] (fun iv wr => ∃ (i a1 : Nat) (T1 : List Int), iv = .int .i64 i ∧ i ≤ 1 + W ∧ Hid (Rm wr b s c m B g a1 T1) ∧ Hid (But b w3 wr) ∧ Hid (Ends (T ++ [60]) (elsG (genE s c m n l (f + 1)) A i) a1 T1) ∧ a1 ≤ T1.length ∧ T1.length ≤ max (T.length + 1) (2001 + 1000 * n)) (fun iv _ => 30 - (intOf iv).toNat)
  case atStart => exact ⟨0, A, T ++ [60], by go_num, Nat.zero_le _, hk3, hide (But.refl _ _), hide (Ends.nil _ A), by simp; omega, by simp; omega⟩
  case round =>
    obtain ⟨i, a1, T1, rfl, hic, hM, hB, hEn, ha1, hT1⟩ := hrel
    have c30 := (unhide hM).out
    have hsz := strs_size T1
    have g0 := (unhide hB).cell (g := w.heap.size) (o := 0) (by omega) (by omega) |>.trans f0
    have g1 := (unhide hB).cell (g := w.heap.size) (o := 1) (by omega) (by omega) |>.trans f1
    have hzr := (unhide hB).size
    by_cases hlt : i < 1 + W
    · by_cases hbig : 2000 < T1.length
      · have HE : Hid (Ends T R a1 (T1 ++ [62])) := hide (by
          obtain ⟨r, hr⟩ := elsG_pre' (genE s c m n l (f + 1)) A i (1 + W) (by omega)
          have h1 := (unhide hEn).cut hbig (elsG (genE s c m n l (f + 1)) A (1 + W)).1 r
          have h2 := h1.seq (q := fun a => (a, [62])) (Ends.put T1 [62] a1)
          refine (unhide HPUT).seq' (q := fun _ => ((elsG (genE s c m n l (f + 1)) A (1 + W)).1, ((elsG (genE s c m n l (f + 1)) A i).2 ++ r) ++ [62])) h2 ?_
          rw [← unhide HR, hr]; rfl)
        have hbig' : (2000 : Int) < ((strOfNums T1).size : Int) := by omega
        have hcv := conv_one wr 62
        have HKa := hide ((unhide hM).below ((Below.refl _ _).alloc (Nat.le_refl _) (.cells #[.int .u8 62] 5)))
        have HBa : Hid (But b w (wr.alloc (.cells #[.int .u8 62] 5))) := hide (((unhide HB3).trans (unhide hB)).alloc _)
        clear hEn
        go_wp2_with (first
          | (go_at_call 74; refine (rclosing_any _ _).mono ?_; rw [hcC]; rintro e w' ⟨rfl, hw⟩; replace hw := hw.symm; subst hw)
          | fail)
        refine (put_any (unhide HKa) (by omega) [62] _ rfl (by simp)).mono ?_
        rintro e w5 ⟨rfl, hk5, hb5⟩
        have HK5 := hide hk5
        have HB5 := hide ((unhide HBa).trans hb5)
        clear hk5 hb5
        go_wp2
        go_end0
        exact ⟨rfl, a1, _, unhide HK5, unhide HB5, unhide HE, by simp; omega, by simp; omega⟩
      · have hbig' : ((strOfNums T1).size : Int) ≤ 2000 := by omega
        have HEr := hide ((unhide HEA3).but (unhide hB) hBb (by omega))
        by_cases hi0 : i = 0
        · subst hi0
          go_wp2_with fail
          refine (hE _ p (f + 1) k l a1 _ _ (unhide hM) (unhide HEr) rfl (by omega) (unhide H10) hl9 hx (unhide HD) (by omega) ha1).mono ?_
          rintro e w4 ⟨rfl, a4, T4, hk4, hb4, he4, ha4, hT4⟩
          have HK4 := hide hk4
          have HB4 := hide ((unhide hB).trans hb4)
          have HE4 := hide ((unhide hEn).seq (q := fun a => ((genE s c m n l (f + 1) a).1, [] ++ (genE s c m n l (f + 1) a).2)) (by simpa using he4))
          clear hk4 hb4 he4 hEn
          go_wp2
          go_roundw
          case rel => exact ⟨1, a4, T4, by go_num, by omega, HK4, HB4, HE4, ha4, by omega⟩
          case measure => simp [intOf]
        · have hi0' : decide ((i : Int) > 0) = true := by simp; omega
          go_wp2_with fail
          refine (put_any (unhide hM) (by omega) [44] _ rfl (by simp)).mono ?_
          rintro e w5 ⟨rfl, hk5, hb5⟩
          have g15 := hb5.cell (g := w.heap.size) (o := 1) (by omega) (by omega) |>.trans g1
          have HEr5 := hide ((unhide HEr).but hb5 hBb (by omega))
          have HK5 := hide hk5
          have HB5 := hide ((unhide hB).trans hb5)
          clear hk5 hb5 g0 g1 c30
          go_wp2_with fail
          refine (hE _ p (f + 1) k l a1 _ _ (unhide HK5) (unhide HEr5) rfl (by omega) (unhide H10) hl9 hx (unhide HD) (by simp; omega) (by simp; omega)).mono ?_
          rintro e w4 ⟨rfl, a4, T4, hk4, hb4, he4, ha4, hT4⟩
          simp only [List.length_append, List.length_cons, List.length_nil] at hT4
          have HK4 := hide hk4
          have HB4 := hide ((unhide HB5).trans hb4)
          have HE4 : Hid (Ends (T ++ [60]) (elsG (genE s c m n l (f + 1)) A (i + 1)) a4 T4) := hide (by
            have h1 := (Ends.put T1 [44] a1).seq (q := genE s c m n l (f + 1)) he4
            refine (unhide hEn).seq' (q := fun a => ((genE s c m n l (f + 1) a).1, [44] ++ (genE s c m n l (f + 1) a).2)) h1 ?_
            simp only [elsG]; rw [if_neg hi0])
          clear hk4 hb4 he4 hEn
          go_wp2
          go_roundw
          case rel => exact ⟨i + 1, a4, T4, by go_num, by omega, HK4, HB4, HE4, ha4, by omega⟩
          case measure => simp [intOf]; omega
    · have hic' : i = 1 + W := by omega
      subst hic'
      have HE : Hid (Ends T R a1 (T1 ++ [62])) := hide (by
        have h2 := (unhide hEn).seq (q := fun a => (a, [62])) (Ends.put T1 [62] a1)
        refine (unhide HPUT).seq' (q := fun _ => ((elsG (genE s c m n l (f + 1)) A (1 + W)).1, (elsG (genE s c m n l (f + 1)) A (1 + W)).2 ++ [62])) h2 ?_
        rw [← unhide HR]; rfl)
      have hcv := conv_one wr 62
      have HKa := hide ((unhide hM).below ((Below.refl _ _).alloc (Nat.le_refl _) (.cells #[.int .u8 62] 5)))
      have HBa : Hid (But b w (wr.alloc (.cells #[.int .u8 62] 5))) := hide (((unhide HB3).trans (unhide hB)).alloc _)
      clear hEn
      go_wp2_with (first
        | (go_at_call 74; refine (rclosing_any _ _).mono ?_; rw [hcC]; rintro e w' ⟨rfl, hw⟩; replace hw := hw.symm; subst hw)
        | fail)
      refine (put_any (unhide HKa) (by omega) [62] _ rfl (by simp)).mono ?_
      rintro e w5 ⟨rfl, hk5, hb5⟩
      have HK5 := hide hk5
      have HB5 := hide ((unhide HBa).trans hb5)
      clear hk5 hb5
      go_wp2
      go_end0
      exact ⟨rfl, a1, _, unhide HK5, unhide HB5, unhide HE, by simp; omega, by simp; omega⟩
end
end Go.Proofs.YtnfaiaoipeholaaGreatDoor

namespace Go.Proofs.YtnfaiaoipeholaaGreatDoor
open Go.RowKit
section
variable {b : Nat} {s c : ByteArray} {m B g : Nat}

theorem fits_eq (gr : Gram s) {l : Nat} (hl : l ≤ 9) (x : Nat) : fits s (lowsF s 27) x (l : Nat) = fitL s l x := by
  unfold fits fitK fitL
  congr 1; funext k
  rw [Bool.eq_iff_iff, decide_eq_true_eq]
  exact alt_nFit gr (by omega) _

/-- any factor -/
theorem rfac_any (v : Er s c m) {n : Nat} (hn : n ≤ 5000) (hE : SaidR b s c m B g n) (lq : Int) (sv : Value) (x f l a : Nat) (T : List Int) (w : World) (hk : Rm w b s c m B g a T) (hS : SubOk w s B f sv) (hl : lq = l) (hl9 : l ≤ 9) (hf : isF s f = true) (hfit : facFit s (nFit s l) (expFit s (nFit s l)) f = true)
    (hx : x ≤ f) (hd : dep s l x < n + 1) (hT : T.length ≤ 7000000) (ha : a ≤ T.length) :
    Calls Tryz.prog 36 #[.pointer (some ⟨b, 0, none⟩), .agg #[.int .u8 (bt s f), sv], .int .i64 lq] w fun e w' => OutR b s c m B g w T (genF s c m (genE s c m n) l f a) (max T.length (2001 + 1000 * n) + 3) e w' := by
  have hfl := isF_lt hf
  have hd1 : dep s l (f + 1) < n := by have := dep_sub (s := s) (l := l) hx hfl; omega
  rcases hS with ⟨h3, rfl⟩ | ⟨h3, p, k, rfl, hEA⟩
  · cases h2 : cN (bt s f)
    · exact rfac_letter lq f l a T w hk h2 h3 (by omega) ha
    · have hfn : nFit s l (bt s f - 65).toNat = true := by unfold facFit at hfit; rw [if_pos h2] at hfit; exact hfit
      exact rfac_name v hn hE lq f l a T w hk hl hl9 h2 hfn (fun y => by have := dep_name (s := s) (l := l) (x := x) (y := y) (by omega) (nFit_pos' hfn); omega) hT ha
  · have h2 : cN (bt s f) = false := by have := cO_vals h3; simp [cN]; omega
    unfold facFit at hfit
    rw [if_neg (by simp [h2])] at hfit
    rcases cO_vals h3 with hK | hK | hK | hK
    · rw [if_pos (.inl hK)] at hfit
      exact rbr_grp v hn hE lq p k f l a T w hk hEA hl hl9 hK hfit hfl hd1 hT ha
    · cases hx : expFit s (nFit s l) (f + 1)
      · exact rbr_optn v hn hE lq p k f l a T w hk hEA hl hl9 hK hx hfl hd1 hT ha
      · exact rbr_opt v hn hE lq p k f l a T w hk hEA hl hl9 hK hx hfl hd1 hT ha
    · cases hx : expFit s (nFit s l) (f + 1)
      · exact rbr_lstn v hn hE lq p k f l a T w hk hEA hl hl9 hK hx hfl hd1 hT ha
      · exact rbr_lst v hn hE lq p k f l a T w hk hEA hl hl9 hK hx hfl hd1 hT ha
    · rw [if_pos (.inr hK)] at hfit
      exact rbr_ne v hn hE lq p k f l a T w hk hEA hl hl9 hK hfit hfl hd1 hT ha

theorem Rm.below_ {w : World} {a : Nat} {T : List Int} (h : Rm w b s c m B g a T) : B ≤ w.heap.size := Nat.le_trans h.hB (Nat.le_of_lt h.lt)

set_option maxHeartbeats 1000000 in
set_option maxRecDepth 1000000 in
theorem rexpr_any (v : Er s c m) {n : Nat} (hn : n ≤ 5000) (hE : SaidR b s c m B g n) : SaidR b s c m B g (n + 1) := by
  intro lq p x k l a T w hk hEA hl hx h10 hl9 hfit hd hT ha
  subst hl
  have hs := v.gram.small
  have hnm := nms_lows s 27
  have hBw := hk.below_
  have hBb := hk.hB
  have hblt := hk.lt
  cases k with
  | zero => exact hEA.elim
  | succ k =>
  have hFT := fun w hB hE => fitting_any (B := B) (m := k) (p := p) (x := x) hs hnm (l : Nat) w hB hE
  have hfe := fits_eq v.gram hl9 x
  obtain ⟨nm, hnmE⟩ : ∃ nm, nm = lowsF s 27 := ⟨_, rfl⟩
  rw [← hnmE] at hFT hfe hnm
  have HRG : Hid (w.rangeAt b 1 (nms nm)) := hide (by rw [hnmE]; exact hk.nam)
  have HFT := hide hFT
  have HEA := hide hEA
  have HK := hide hk
  generalize hR : genE s c m (n + 1) l x a = R
  unfold genE at hR
  have HR := hide hR
  have HFE := hide hfe
  have hL0 := fitL_ne hfit
  have hLb := fitL_len s l x
  have hWL := wayN_lt c a _ hL0
  have hAle := wayA_le a (fitL s l x).length
  obtain ⟨hG1, hG2⟩ := fitL_mem (gone_mem (c := c) (a := a) hfit)
  have hGat : (fitL s l x)[wayN c a (fitL s l x).length]? = some (gone s c l x a) := by
    unfold gone; rw [List.getD_eq_getElem?_getD, List.getElem?_eq_getElem hWL]; rfl
  obtain ⟨hp, N, gv, cap, hN0, hN4, hcp, hgv, hNn, hall⟩ := id hEA
  have hGN : gone s c l x a < N := by
    rcases Nat.lt_or_ge (gone s c l x a) N with h | h
    · exact h
    · have h2 := ap_none hNn _ h
      rw [sts_ap] at h2
      have := List.getElem?_eq_none_iff.1 h2; omega
  have hG9 : gone s c l x a ≤ 9 := by omega
  obtain ⟨y, va, hap, hca, hA⟩ := hall _ hGN
  have hy : (sts s x).getD (gone s c l x a) 0 = y := by rw [List.getD_eq_getElem?_getD, ← sts_ap, hap]; rfl
  obtain ⟨ao, ca, rfl, hfac⟩ := hA
  rw [hy] at hG2 hR
  have hlen := fe_len s y
  have hmem : ∀ f ∈ (fe s y).1, isF s f = true ∧ x ≤ f := fun f hf => ⟨(fe_mem hf).1, by have := (fe_mem hf).2; have := (ap_bd hap).1; omega⟩
  have hL10 : (fitL s l x).length ≤ 10 := by omega
  generalize hLL : (fitL s l x).length = L at *
  generalize hWW : wayN c a L = W at *
  generalize hAA : wayA a L = A at *
  generalize gone s c l x a = G at *
  generalize hFL : (fe s y).1 = FL at *
  have hin : Hid ((Tryz.prog.info? 57).map (·.size) = some (nms nm).length) := hide (by rw [nms_len]; exact Tryz.infoArr)
  have HR := hide hR
  have HFE := hide hfe
  have HGat := hide hGat
  have HWW := hide hWW
  have HAA := hide hAA
  have HG2 := hide hG2
  have HFAC := hide hfac
  have HMEM := hide hmem
  have HLL := hide hLL
  have hpl : p < B := hp
  have hgl : gv < B := hgv
  clear hFT hEA hk hR hnmE hfe hGat hWW hAA hG2 hfac hmem hall hNn hap hy hFL hLL hfit hLb hG1 h10
  go_enter Tryz.func72, Tryz.ntmps72
  go_wp2_with (first | (refine wpList_load_mid rfl 57 _ rfl b 1 rfl (nms nm) _ (unhide HRG) Tryz.underlying57 rfl (unhide hin) ?_) | fail)
  refine (unhide HFT _ hBw (unhide HEA)).mono ?_
  rintro e w1 ⟨vv, rfl, hown, hb1⟩
  rw [unhide HFE] at hown
  have hown' := hown
  rw [unhide HLL] at hown'
  obtain ⟨gl, cap1, rfl⟩ : ∃ gl cap1, vv = .slice (some ⟨gl, 0, none⟩) L cap1 := by
    rcases hown'.2 with ⟨_, e⟩ | ⟨gl, cap1, _, e, _⟩
    · omega
    · exact ⟨gl, cap1, e⟩
  have hglt := hown'.lt gl rfl
  have hcell : w1.cell? ⟨gl, W, none⟩ = some (.int .i64 (G : Nat)) := by
    rw [hown'.cellAt W (by omega)]
    unfold ints
    rw [List.getElem?_map, unhide HGat]; rfl
  have HK1 := hide ((unhide HK).below hb1)
  have HB1 : Hid (But b w w1) := hide (But.of hb1)
  have c30 := (unhide HK1).out
  have hsz := strs_size T
  have hz1 := hb1.size
  have d0 := (hb1.cell (p := ⟨p, 0, none⟩) (by show p < _; omega)).trans hcp
  have d1 := (hb1.cell (p := ⟨gv, G, none⟩) (by show gv < _; omega)).trans hca
  have HEA1 := hide ((unhide HEA).below hb1 hBw)
  clear hown hown' hb1 hcp hca HK HEA HRG
  have hL0' : ((L : Int) == 0) = false := by simp only [beq_eq_false_iff_ne]; omega
  by_cases hbig : 2000 < T.length
  · have hbigd : decide ((2000 : Int) < (T.length : Int)) = true := by simp; omega
    have hbig' : (2000 : Int) < ((strOfNums T).size : Int) := by omega
    clear d0 d1 hcell
    go_wp2
    go_end0
    exact ⟨rfl, a, T, unhide HK1, unhide HB1, Ends.skip hbig _ _, ha, by omega⟩
  · have hbigd : decide ((2000 : Int) < (T.length : Int)) = false := by simp; omega
    have hbig' : ((strOfNums T).size : Int) ≤ 2000 := by omega
    go_wp2_with fail
    refine (way_any (unhide HK1) v.dg (by omega) _ L rfl (by omega)).mono ?_
    rw [unhide HWW, unhide HAA]
    rintro e w2 ⟨rfl, hk2, hb2⟩
    have hcell2 := (hb2.cell (g := gl) (o := W) (by omega) (by omega)).trans hcell
    have e0 := (hb2.cell (g := p) (o := 0) (by omega) (by omega)).trans d0
    have e1 := (hb2.cell (g := gv) (o := G) (by omega) (by omega)).trans d1
    have hcv := conv_one w2 (48 + (G : Int))
    have hz2 := hb2.size
    have HKa := hide (hk2.below ((Below.refl _ _).alloc (Nat.le_refl _) (.cells #[.int .u8 (48 + (G : Int))] 5)))
    have HBa : Hid (But b w1 (w2.alloc (.cells #[.int .u8 (48 + (G : Int))] 5))) := hide (hb2.alloc _)
    clear hk2 hb2 hcell c30
    go_wp2_with fail
    refine (put_any (unhide HKa) (by omega) [48 + (G : Int)] _ rfl (by simp)).mono ?_
    rintro e w3 ⟨rfl, hk3, hb3⟩
    have HB3 := hide ((unhide HBa).trans hb3)
    have HK3 := hide hk3
    clear hcv hcell2 e0 e1 hk3 hb3 HKa HBa
    go_wp2
    go_loopw [9] (fun iv wr => ∃ (i a1 : Nat) (T1 : List Int) (p1 : Nat × List Int), iv = .int .i64 i ∧ i ≤ FL.length ∧ Hid (Rm wr b s c m B g a1 T1) ∧ Hid (But b w1 wr) ∧ Hid (Ends T p1 a1 T1) ∧ Hid (R = ((facsG (genF s c m (genE s c m n) l) (FL.drop i) p1.1).1, p1.2 ++ (facsG (genF s c m (genE s c m n) l) (FL.drop i) p1.1).2)) ∧ a1 ≤ T1.length ∧ T1.length ≤ 2001 + 1000 * n + 3 * i) (fun iv _ => 400 - (intOf iv).toNat)
    case atStart => exact ⟨0, A, T ++ [48 + (G : Int)], (A, [48 + (G : Int)]), rfl, Nat.zero_le _, HK3, HB3, hide (Ends.put T [48 + (G : Int)] A), hide (unhide HR).symm, by simp; omega, by simp; omega⟩
    case round =>
      obtain ⟨i, a1, T1, p1, rfl, hil, hM, hB, hEn, hRe, ha1, hT1⟩ := hrel
      have g0 := ((unhide hB).cell (g := p) (o := 0) (by omega) (by omega)).trans d0
      have g1 := ((unhide hB).cell (g := gv) (o := G) (by omega) (by omega)).trans d1
      by_cases hlt : i < FL.length
      · obtain ⟨ga, rfl, hga, hF⟩ := unhide HFAC i hlt
        have hga' : ga < B := hga
        have hin1 : FL.getD i 0 ∈ FL := by rw [List.getD_eq_getElem?_getD, List.getElem?_eq_getElem hlt]; simp
        have hfm := unhide HMEM (FL.getD i 0) hin1
        have hff := unhide HG2 (FL.getD i 0) hin1
        have hdrop : FL.drop i = FL.getD i 0 :: FL.drop (i + 1) := by
          rw [List.drop_eq_getElem_cons hlt, List.getD_eq_getElem?_getD, List.getElem?_eq_getElem hlt]; rfl
        have hR2 := unhide hRe
        rw [hdrop] at hR2
        clear hRe hdrop hin1
        generalize FL.getD i 0 = fk at *
        obtain ⟨hF1, hF2⟩ := hF
        have hcb : ∀ o, wr.cell? ⟨ga, o, none⟩ = w.cell? ⟨ga, o, none⟩ := fun o => ((unhide HB1).trans (unhide hB)).cell (g := ga) (by omega) (by omega)
        have k0 := (hcb (i * 2)).trans hF1
        obtain ⟨sv, k1, hsub⟩ : ∃ sv, wr.cell? ⟨ga, i * 2 + 1, none⟩ = some sv ∧ SubOk wr s B fk sv := by
          rcases hF2 with ⟨q1, q2⟩ | ⟨q1, p', q2, q3⟩
          · exact ⟨_, (hcb _).trans q2, .inl ⟨q1, rfl⟩⟩
          · exact ⟨_, (hcb _).trans q2, .inr ⟨q1, p', k, rfl, q3.but ((unhide HB1).trans (unhide hB)) hBb (by omega)⟩⟩
        have HSUB := hide hsub
        have HFM := hide hfm.1
        have hxf := hfm.2
        have HFF := hide hff
        have hRe' : Hid (R = ((facsG (genF s c m (genE s c m n) l) (FL.drop (i + 1)) (genF s c m (genE s c m n) l fk p1.1).1).1, (p1.2 ++ (genF s c m (genE s c m n) l fk p1.1).2) ++ (facsG (genF s c m (genE s c m n) l) (FL.drop (i + 1)) (genF s c m (genE s c m n) l fk p1.1).1).2)) := hide (by
          rw [hR2]; simp [facsG])
        clear hF1 hF2 hsub hfm hff hR2 hcb
        go_wp2_with fail
        refine (rfac_any v hn hE _ sv x fk l a1 _ _ (unhide hM) (unhide HSUB) rfl hl9 (unhide HFM) (unhide HFF) hxf hd (by omega) ha1).mono ?_
        rintro e w4 ⟨rfl, a4, T4, hk4, hb4, he4, ha4, hT4⟩
        have HK4 := hide hk4
        have HB4 := hide ((unhide hB).trans hb4)
        have HE4 := hide ((unhide hEn).seq (q := genF s c m (genE s c m n) l fk) he4)
        clear hk4 hb4 he4 hEn k0 k1 g0 g1
        go_wp2
        go_roundw
        case rel => exact ⟨i + 1, a4, T4, _, by go_num, by omega, HK4, HB4, HE4, hRe', ha4, by omega⟩
        case measure => simp [intOf]; omega
      · have HE : Hid (Ends T R a1 T1) := hide (by
          have h := unhide hRe
          rw [List.drop_eq_nil_of_le (by omega)] at h
          have e : R = p1 := by rw [h]; simp [facsG]
          rw [e]; exact unhide hEn)
        have hil' : i = FL.length := by omega
        subst hil'
        clear hRe hEn
        go_wp2
        go_end0
        exact ⟨rfl, a1, T1, unhide hM, (unhide HB1).trans (unhide hB), unhide HE, ha1, by omega⟩
theorem rexpr_all (v : Er s c m) : ∀ n, n ≤ 5000 → SaidR b s c m B g n
  | 0, _ => fun _ _ _ _ _ _ _ _ _ _ _ _ _ _ _ hd _ _ => by omega
  | n + 1, hn => rexpr_any v (by omega) (rexpr_all v n (by omega))
end
end Go.Proofs.YtnfaiaoipeholaaGreatDoor

namespace Go.Proofs.YtnfaiaoipeholaaGreatDoor
open Go.RowKit
theorem ret_str {a b : ByteArray} {c d : Int} (h : a = b) (g : c = d) : Ending.returned (.tuple #[.string a, .int .i64 c]) = .returned (.tuple #[.string b, .int .i64 d]) := by rw [h, g]
/-- the reference's maker as a value -/
def rms (g : Nat) (nm : Nat → Int) (m : Int) (c : ByteArray) : List Value := .pointer (some ⟨g, 0, none⟩) :: (nms nm ++ [.int .i64 m, .string c, .int .i64 0, .string ⟨#[]⟩])
theorem Tryz.builtRm (g : Nat) (nm : Nat → Int) (m : Int) (c : ByteArray) : Tryz.prog.built 60 [(0, .pointer (some ⟨g, 0, none⟩)), (1, .agg (nms nm).toArray), (2, .int .i64 m), (3, .string c)] = some (rms g nm m c).toArray := by kernel_rfl
theorem Rm.start {w : World} {s c : ByteArray} {m : Int} {g : Nat} (t : TypeId) (gr : Gr w s w.heap.size g) : Rm (w.alloc (.cells (rms g (lowsF s 27) m c).toArray t)) w.heap.size s c m w.heap.size g 0 [] := by
  have hb : Below w.heap.size w (w.alloc (.cells (rms g (lowsF s 27) m c).toArray t)) := (Below.refl _ _).alloc (Nat.le_refl _) _
  have hr := range_alloc w (rms g (lowsF s 27) m c) t
  have hf : ∀ j, (w.alloc (.cells (rms g (lowsF s 27) m c).toArray t)).frozen? ⟨w.heap.size, j, none⟩ = false := fun j => World.frozen?_alloc_new w _ _ _
  generalize hW : w.alloc (.cells (rms g (lowsF s 27) m c).toArray t) = W at *
  have hsz : w.heap.size < W.heap.size := by rw [← hW]; simp
  have hat : ∀ j v, [Value.int .i64 m, .string c, .int .i64 0, .string ⟨#[]⟩][j]? = some v → W.cell? ⟨w.heap.size, 27 + j, none⟩ = some v := fun j v hv => by
    have := hr (27 + j) v (by
      rw [rms, show 27 + j = (26 + j) + 1 by omega, List.getElem?_cons_succ, List.getElem?_append_right (by rw [nms_len]; omega), nms_len, Nat.add_sub_cancel_left]; exact hv)
    rwa [Nat.zero_add] at this
  refine ⟨gr.below hb (Nat.le_refl _), Nat.le_refl _, hsz, ?_, fun j v hv => ?_, hat 0 _ rfl, hat 1 _ rfl, hat 2 _ rfl, hf 29, hat 3 _ rfl, hf 30⟩
  · have := hr 0 _ rfl; simpa using this
  · have := hr (1 + j) v (by rw [rms, Nat.add_comm, List.getElem?_cons_succ, List.getElem?_append_left (List.getElem?_eq_some_iff.1 hv).1]; exact hv)
    rwa [Nat.zero_add] at this

end Go.Proofs.YtnfaiaoipeholaaGreatDoor
