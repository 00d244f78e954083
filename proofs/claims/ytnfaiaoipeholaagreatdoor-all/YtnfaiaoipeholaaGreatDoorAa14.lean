/- RMakeB -/
import Derived.Test.YtnfaiaoipeholaaGreatDoorAa13
namespace Go.Proofs.YtnfaiaoipeholaaGreatDoor
open Go.RowKit
/-- with fewer elements it begins the same -/
theorem elsG_pre' (rec : Nat → Nat × List Int) (a : Nat) : ∀ k n, k ≤ n → ∃ r, (elsG rec a n).2 = (elsG rec a k).2 ++ r
  | k, 0, h => ⟨[], by have : k = 0 := by omega
                       subst this; simp⟩
  | k, n + 1, h => by
    by_cases e : k = n + 1
    · subst e; exact ⟨[], by simp⟩
    · obtain ⟨r, hr⟩ := elsG_pre' rec a k n (by omega)
      exact ⟨r ++ ((if n = 0 then [] else [44]) ++ (rec (elsG rec a n).1).2), by simp only [elsG]; rw [hr]; simp⟩
section
variable {b : Nat} {s c : ByteArray} {m B g : Nat}

set_option maxHeartbeats 1000000 in
set_option maxRecDepth 1000000 in
theorem rbr_opt (v : Er s c m) {n : Nat} (hn : n ≤ 5000) (hE : SaidR b s c m B g n) (lq : Int) (p k f l a : Nat) (T : List Int) (w : World) (hk : Rm w b s c m B g a T) (hEA : EA w s k (fun j => j < B) p (f + 1)) (hl : lq = l) (hl9 : l ≤ 9) (hK : bt s f = 91) (hx : expFit s (nFit s l) (f + 1) = true)
    (hfl : f < s.size) (hd : dep s l (f + 1) < n) (hT : T.length ≤ 7000000) (ha : a ≤ T.length) :
    Calls Tryz.prog 36 #[.pointer (some ⟨b, 0, none⟩), .agg #[.int .u8 (bt s f), .pointer (some ⟨p, 0, none⟩)], .int .i64 lq] w fun e w' => OutR b s c m B g w T (genF s c m (genE s c m n) l f a) (max T.length (2001 + 1000 * n) + 3) e w' := by
  subst hl
  generalize hR : genF s c m (genE s c m n) l f a = R
  have h2 : cN (bt s f) = false := by rw [hK]; decide
  have hm1 := v.hm.1
  have hm5 := v.hm.2
  have hcnt : cnt s m l f = 2 := by unfold cnt; rw [hK]; rw [if_pos hx]; rfl
  unfold genF genB at hR
  rw [if_neg (by simp [h2]), if_pos (by rw [hK]; decide), hcnt, hK] at hR
  have H10 := hide (v.ten.sub f (by rw [hK]; decide))
  have hfew : few 91 = 0 := by decide
  have hWlt := wayN_lt c a (2) (by omega)
  have hAle := wayA_le a (2)
  generalize hWE : wayN c a (2) = W at *
  generalize hAE : wayA a (2) = A at *
  have HWE := hide hWE
  have HAE := hide hAE
  have hcC : cC 91 = 93 := by decide
  rw [hfew, hcC] at hR
  have hnm := nms_lows s 27
  have hH := low_nFit v.gram (l := l) (by omega) (f + 1)
  have hHb := low_bd (s := s) hnm (f + 1)
  have hLW := low_all v.gram.small hnm (B := B) k
  have hblt := hk.lt
  have hBb := hk.hB
  rw [hK]
  have hcv := conv_one (w.alloc (.cells #[.int .u8 91, .pointer (some ⟨p, 0, none⟩)] 67)) 91
  rw [World.size_alloc] at hcv
  obtain ⟨s1, s2, s3, s4⟩ := fac_start w 91 (.pointer (some ⟨p, 0, none⟩)) 67 5
  have HK := hide (hk.below s1)
  have HS1 := hide s1
  have HR := hide hR
  have HD := hide hd
  have HEA := hide hEA
  have hlow : low s (lowsF s 27) (f + 1) ≤ (l : Nat) := by exact hH.2 hx
  obtain ⟨nm, hnmE⟩ : ∃ nm, nm = lowsF s 27 := ⟨_, rfl⟩
  rw [← hnmE] at hlow hHb hLW hnm
  generalize hlv : low s nm (f + 1) = H at *
  have HLV := hide hlv
  have HNM := hide hnmE
  have HLW := hide hLW
  clear hR hk s1 hd hcnt hK hH hEA hlv h2 hnmE hLW hWE hAE
  go_enter Tryz.func36, Tryz.ntmps36
  go_wp2_with (first
    | (go_at_call 31; refine (name_any _ _).mono ?_; rintro e w' ⟨rfl, hw⟩; replace hw := hw.symm; subst hw; rw [show cN 91 = false by decide])
    | fail)
  refine (put_any (unhide HK) (by omega) [91] _ rfl (by simp)).mono ?_
  rintro e w1 ⟨rfl, hk1, hb1⟩
  have e0 := (hb1.cell (g := w.heap.size) (o := 0) (by omega) (by omega)).trans s2
  have e1 := (hb1.cell (g := w.heap.size) (o := 1) (by omega) (by omega)).trans s3
  have hz1 := hb1.size
  have HK1 := hide hk1
  have HB1 := hide ((But.of (b := b) (unhide HS1)).trans hb1)
  have HEA1 := hide (((unhide HEA).below (unhide HS1) (by omega)).but hb1 hBb (by omega))
  have HRG : Hid (w1.rangeAt b 1 (nms nm)) := hide (by rw [unhide HNM]; exact hk1.nam)
  have hw1 : B ≤ w1.heap.size := by omega
  clear hcv s2 s3 hk1 hb1
  go_wp2_with fail
  have hu := Tryz.underlying57
  have hin : (Tryz.prog.info? 57).map (·.size) = some (nms nm).length := by rw [nms_len]; exact Tryz.infoArr
  have hnl := nms_len nm
  have hno := nms_one nm
  go_region_held (fun w' => Below w1.heap.size w1 w' ∧ w'.cell? ⟨w.heap.size, 1, none⟩ = some (.pointer (some ⟨p, 0, none⟩)) ∧ w'.rangeAt b 1 (nms nm)) (first | exact keepO ((Below.refl _ _).drew) e1 (unhide HRG) | exact keepO (((Below.refl w1.heap.size w1).drew).trans hb2) e1 (unhide HRG)) (first | (go_at_call 70; refine (unhide HLW p (f + 1) _ ?_ ?_).mono ?_; exact hw1; exact (unhide HEA1).below ((Below.refl _ _).drew) hw1; rw [unhide HLV]; rintro e w2 ⟨rfl, hb2⟩))
  have hb2' : Below w1.heap.size w1 w2 := ((Below.refl _ _).drew).trans hb2
  have d0 := (hb2'.cell (p := ⟨w.heap.size, 0, none⟩) (by show w.heap.size < _; omega)).trans e0
  have d1 := (hb2'.cell (p := ⟨w.heap.size, 1, none⟩) (by show w.heap.size < _; omega)).trans e1
  have HK2 := hide ((unhide HK1).below hb2')
  have d27 := (unhide HK2).mst
  have HB2 := hide ((unhide HB1).trans (But.of hb2'))
  have HEA2 := hide ((unhide HEA1).below hb2' hw1)
  have hz2 := hb2'.size
  clear hu hin hnl hno hb2 hb2' e0 e1 HK1 HB1 HEA1 HRG
  go_wp2_with (first
    | (go_at_call 73; refine (way_any (unhide HK2) v.dg (by omega) _ (2) (rfl) (by omega)).mono ?_; rw [unhide HWE, unhide HAE]; rintro e w3 ⟨rfl, hk3, hb3⟩; replace hk3 := hide hk3; replace hb3 := hide hb3)
    | fail)
  have f0 := (unhide hb3).cell (g := w.heap.size) (o := 0) (by omega) (by omega) |>.trans d0
  have f1 := (unhide hb3).cell (g := w.heap.size) (o := 1) (by omega) (by omega) |>.trans d1
  have hz3 := (unhide hb3).size
  have HB3 := hide ((unhide HB2).trans (unhide hb3))
  have HEA3 := hide ((unhide HEA2).but (unhide hb3) hBb (by omega))
  clear d0 d1 d27 HB2 HEA2 HK2 hb3
  have HPUT : Hid (Ends T (a, [91]) a (T ++ [91])) := hide (Ends.put T [91] a)
  go_loopw [10] (fun iv wr => ∃ (i a1 : Nat) (T1 : List Int), iv = .int .i64 i ∧ i ≤ 0 + W ∧ Hid (Rm wr b s c m B g a1 T1) ∧ Hid (But b w3 wr) ∧ Hid (Ends (T ++ [91]) (elsG (genE s c m n l (f + 1)) A i) a1 T1) ∧ a1 ≤ T1.length ∧ T1.length ≤ max (T.length + 1) (2001 + 1000 * n)) (fun iv _ => 30 - (intOf iv).toNat)
  case atStart => exact ⟨0, A, T ++ [91], by go_num, Nat.zero_le _, hk3, hide (But.refl _ _), hide (Ends.nil _ A), by simp; omega, by simp; omega⟩
  case round =>
    obtain ⟨i, a1, T1, rfl, hic, hM, hB, hEn, ha1, hT1⟩ := hrel
    have c30 := (unhide hM).out
    have hsz := strs_size T1
    have g0 := (unhide hB).cell (g := w.heap.size) (o := 0) (by omega) (by omega) |>.trans f0
    have g1 := (unhide hB).cell (g := w.heap.size) (o := 1) (by omega) (by omega) |>.trans f1
    have hzr := (unhide hB).size
    by_cases hlt : i < 0 + W
    · by_cases hbig : 2000 < T1.length
      · have HE : Hid (Ends T R a1 (T1 ++ [93])) := hide (by
          obtain ⟨r, hr⟩ := elsG_pre' (genE s c m n l (f + 1)) A i (0 + W) (by omega)
          have h1 := (unhide hEn).cut hbig (elsG (genE s c m n l (f + 1)) A (0 + W)).1 r
          have h2 := h1.seq (q := fun a => (a, [93])) (Ends.put T1 [93] a1)
          refine (unhide HPUT).seq' (q := fun _ => ((elsG (genE s c m n l (f + 1)) A (0 + W)).1, ((elsG (genE s c m n l (f + 1)) A i).2 ++ r) ++ [93])) h2 ?_
          rw [← unhide HR, hr]; rfl)
        have hbig' : (2000 : Int) < ((strOfNums T1).size : Int) := by omega
        have hcv := conv_one wr 93
        have HKa := hide ((unhide hM).below ((Below.refl _ _).alloc (Nat.le_refl _) (.cells #[.int .u8 93] 5)))
        have HBa : Hid (But b w (wr.alloc (.cells #[.int .u8 93] 5))) := hide (((unhide HB3).trans (unhide hB)).alloc _)
        clear hEn
        go_wp2_with (first
          | (go_at_call 74; refine (rclosing_any _ _).mono ?_; rw [hcC]; rintro e w' ⟨rfl, hw⟩; replace hw := hw.symm; subst hw)
          | fail)
        refine (put_any (unhide HKa) (by omega) [93] _ rfl (by simp)).mono ?_
        rintro e w5 ⟨rfl, hk5, hb5⟩
        have HK5 := hide hk5
        have HB5 := hide ((unhide HBa).trans hb5)
        clear hk5 hb5
        go_wp2
        go_end0
        exact ⟨rfl, a1, _, unhide HK5, unhide HB5, unhide HE, by simp; omega, by simp; omega⟩
      · have hbig' : ((strOfNums T1).size : Int) ≤ 2000 := by omega
        have HEr := hide ((unhide HEA3).but (unhide hB) hBb (by omega))
        by_cases hi0 : i = 0
        · subst hi0
          go_wp2_with fail
          refine (hE _ p (f + 1) k l a1 _ _ (unhide hM) (unhide HEr) rfl (by omega) (unhide H10) hl9 hx (unhide HD) (by omega) ha1).mono ?_
          rintro e w4 ⟨rfl, a4, T4, hk4, hb4, he4, ha4, hT4⟩
          have HK4 := hide hk4
          have HB4 := hide ((unhide hB).trans hb4)
          have HE4 := hide ((unhide hEn).seq (q := fun a => ((genE s c m n l (f + 1) a).1, [] ++ (genE s c m n l (f + 1) a).2)) (by simpa using he4))
          clear hk4 hb4 he4 hEn
          go_wp2
          go_roundw
          case rel => exact ⟨1, a4, T4, by go_num, by omega, HK4, HB4, HE4, ha4, by omega⟩
          case measure => simp [intOf]
        · omega
    · have hic' : i = 0 + W := by omega
      subst hic'
      have HE : Hid (Ends T R a1 (T1 ++ [93])) := hide (by
        have h2 := (unhide hEn).seq (q := fun a => (a, [93])) (Ends.put T1 [93] a1)
        refine (unhide HPUT).seq' (q := fun _ => ((elsG (genE s c m n l (f + 1)) A (0 + W)).1, (elsG (genE s c m n l (f + 1)) A (0 + W)).2 ++ [93])) h2 ?_
        rw [← unhide HR]; rfl)
      have hcv := conv_one wr 93
      have HKa := hide ((unhide hM).below ((Below.refl _ _).alloc (Nat.le_refl _) (.cells #[.int .u8 93] 5)))
      have HBa : Hid (But b w (wr.alloc (.cells #[.int .u8 93] 5))) := hide (((unhide HB3).trans (unhide hB)).alloc _)
      clear hEn
      go_wp2_with (first
        | (go_at_call 74; refine (rclosing_any _ _).mono ?_; rw [hcC]; rintro e w' ⟨rfl, hw⟩; replace hw := hw.symm; subst hw)
        | fail)
      refine (put_any (unhide HKa) (by omega) [93] _ rfl (by simp)).mono ?_
      rintro e w5 ⟨rfl, hk5, hb5⟩
      have HK5 := hide hk5
      have HB5 := hide ((unhide HBa).trans hb5)
      clear hk5 hb5
      go_wp2
      go_end0
      exact ⟨rfl, a1, _, unhide HK5, unhide HB5, unhide HE, by simp; omega, by simp; omega⟩

set_option maxHeartbeats 1000000 in
set_option maxRecDepth 1000000 in
theorem rbr_optn (v : Er s c m) {n : Nat} (hn : n ≤ 5000) (_hE : SaidR b s c m B g n) (lq : Int) (p k f l a : Nat) (T : List Int) (w : World) (hk : Rm w b s c m B g a T) (hEA : EA w s k (fun j => j < B) p (f + 1)) (hl : lq = l) (hl9 : l ≤ 9) (hK : bt s f = 91) (hx : expFit s (nFit s l) (f + 1) = false)
    (_hfl : f < s.size) (hd : dep s l (f + 1) < n) (hT : T.length ≤ 7000000) (ha : a ≤ T.length) :
    Calls Tryz.prog 36 #[.pointer (some ⟨b, 0, none⟩), .agg #[.int .u8 (bt s f), .pointer (some ⟨p, 0, none⟩)], .int .i64 lq] w fun e w' => OutR b s c m B g w T (genF s c m (genE s c m n) l f a) (max T.length (2001 + 1000 * n) + 3) e w' := by
  subst hl
  generalize hR : genF s c m (genE s c m n) l f a = R
  have h2 : cN (bt s f) = false := by rw [hK]; decide
  have hm1 := v.hm.1
  have hm5 := v.hm.2
  have hcnt : cnt s m l f = 1 := by unfold cnt; rw [hK]; rw [if_neg (by simp [hx])]
  unfold genF genB at hR
  rw [if_neg (by simp [h2]), if_pos (by rw [hK]; decide), hcnt, hK] at hR
  have H10 := hide (v.ten.sub f (by rw [hK]; decide))
  have hfew : few 91 = 0 := by decide
  have hWlt := wayN_lt c a (1) (by omega)
  have hAle := wayA_le a (1)
  generalize hWE : wayN c a (1) = W at *
  generalize hAE : wayA a (1) = A at *
  have HWE := hide hWE
  have HAE := hide hAE
  have hcC : cC 91 = 93 := by decide
  rw [hfew, hcC] at hR
  have hnm := nms_lows s 27
  have hH := low_nFit v.gram (l := l) (by omega) (f + 1)
  have hHb := low_bd (s := s) hnm (f + 1)
  have hLW := low_all v.gram.small hnm (B := B) k
  have hblt := hk.lt
  have hBb := hk.hB
  rw [hK]
  have hcv := conv_one (w.alloc (.cells #[.int .u8 91, .pointer (some ⟨p, 0, none⟩)] 67)) 91
  rw [World.size_alloc] at hcv
  obtain ⟨s1, s2, s3, s4⟩ := fac_start w 91 (.pointer (some ⟨p, 0, none⟩)) 67 5
  have HK := hide (hk.below s1)
  have HS1 := hide s1
  have HR := hide hR
  have HD := hide hd
  have HEA := hide hEA
  have hlow : (l : Int) < low s (lowsF s 27) (f + 1) := by exact Int.not_le.1 (fun e => by rw [hH.1 e] at hx; cases hx)
  obtain ⟨nm, hnmE⟩ : ∃ nm, nm = lowsF s 27 := ⟨_, rfl⟩
  rw [← hnmE] at hlow hHb hLW hnm
  generalize hlv : low s nm (f + 1) = H at *
  have HLV := hide hlv
  have HNM := hide hnmE
  have HLW := hide hLW
  clear hR hk s1 hd hcnt hK hH hEA hlv h2 hnmE hLW hWE hAE
  go_enter Tryz.func36, Tryz.ntmps36
  go_wp2_with (first
    | (go_at_call 31; refine (name_any _ _).mono ?_; rintro e w' ⟨rfl, hw⟩; replace hw := hw.symm; subst hw; rw [show cN 91 = false by decide])
    | fail)
  refine (put_any (unhide HK) (by omega) [91] _ rfl (by simp)).mono ?_
  rintro e w1 ⟨rfl, hk1, hb1⟩
  have e0 := (hb1.cell (g := w.heap.size) (o := 0) (by omega) (by omega)).trans s2
  have e1 := (hb1.cell (g := w.heap.size) (o := 1) (by omega) (by omega)).trans s3
  have hz1 := hb1.size
  have HK1 := hide hk1
  have HB1 := hide ((But.of (b := b) (unhide HS1)).trans hb1)
  have HEA1 := hide (((unhide HEA).below (unhide HS1) (by omega)).but hb1 hBb (by omega))
  have HRG : Hid (w1.rangeAt b 1 (nms nm)) := hide (by rw [unhide HNM]; exact hk1.nam)
  have hw1 : B ≤ w1.heap.size := by omega
  clear hcv s2 s3 hk1 hb1
  go_wp2_with fail
  have hu := Tryz.underlying57
  have hin : (Tryz.prog.info? 57).map (·.size) = some (nms nm).length := by rw [nms_len]; exact Tryz.infoArr
  have hnl := nms_len nm
  have hno := nms_one nm
  go_region_held (fun w' => Below w1.heap.size w1 w' ∧ w'.cell? ⟨w.heap.size, 1, none⟩ = some (.pointer (some ⟨p, 0, none⟩)) ∧ w'.rangeAt b 1 (nms nm)) (first | exact keepO ((Below.refl _ _).drew) e1 (unhide HRG) | exact keepO (((Below.refl w1.heap.size w1).drew).trans hb2) e1 (unhide HRG)) (first | (go_at_call 70; refine (unhide HLW p (f + 1) _ ?_ ?_).mono ?_; exact hw1; exact (unhide HEA1).below ((Below.refl _ _).drew) hw1; rw [unhide HLV]; rintro e w2 ⟨rfl, hb2⟩))
  have hb2' : Below w1.heap.size w1 w2 := ((Below.refl _ _).drew).trans hb2
  have d0 := (hb2'.cell (p := ⟨w.heap.size, 0, none⟩) (by show w.heap.size < _; omega)).trans e0
  have d1 := (hb2'.cell (p := ⟨w.heap.size, 1, none⟩) (by show w.heap.size < _; omega)).trans e1
  have HK2 := hide ((unhide HK1).below hb2')
  have d27 := (unhide HK2).mst
  have HB2 := hide ((unhide HB1).trans (But.of hb2'))
  have HEA2 := hide ((unhide HEA1).below hb2' hw1)
  have hz2 := hb2'.size
  clear hu hin hnl hno hb2 hb2' e0 e1 HK1 HB1 HEA1 HRG
  go_wp2_with fail
  have hA1 : A = a := by rw [← unhide HAE]; rfl
  have hk3 : Hid (Rm w2 b s c m B g A (T ++ [91])) := hide (by rw [hA1]; exact unhide HK2)
  have hb3 : Hid (But b w2 w2) := hide (But.refl _ _)
  have f0 := (unhide hb3).cell (g := w.heap.size) (o := 0) (by omega) (by omega) |>.trans d0
  have f1 := (unhide hb3).cell (g := w.heap.size) (o := 1) (by omega) (by omega) |>.trans d1
  have hz3 := (unhide hb3).size
  have HB3 := hide ((unhide HB2).trans (unhide hb3))
  have HEA3 := hide ((unhide HEA2).but (unhide hb3) hBb (by omega))
  clear d0 d1 d27 HB2 HEA2 HK2 hb3
  have HPUT : Hid (Ends T (a, [91]) a (T ++ [91])) := hide (Ends.put T [91] a)
  go_loopw [10] (fun iv wr => ∃ (i a1 : Nat) (T1 : List Int), iv = .int .i64 i ∧ i ≤ 0 + W ∧ Hid (Rm wr b s c m B g a1 T1) ∧ Hid (But b w2 wr) ∧ Hid (Ends (T ++ [91]) (elsG (genE s c m n l (f + 1)) A i) a1 T1) ∧ a1 ≤ T1.length ∧ T1.length ≤ max (T.length + 1) (2001 + 1000 * n)) (fun iv _ => 30 - (intOf iv).toNat)
  case atStart => exact ⟨0, A, T ++ [91], by go_num, Nat.zero_le _, hk3, hide (But.refl _ _), hide (Ends.nil _ A), by simp; omega, by simp; omega⟩
  case round =>
    obtain ⟨i, a1, T1, rfl, hic, hM, hB, hEn, ha1, hT1⟩ := hrel
    have c30 := (unhide hM).out
    have hsz := strs_size T1
    have g0 := (unhide hB).cell (g := w.heap.size) (o := 0) (by omega) (by omega) |>.trans f0
    have g1 := (unhide hB).cell (g := w.heap.size) (o := 1) (by omega) (by omega) |>.trans f1
    have hzr := (unhide hB).size
    by_cases hlt : i < 0 + W
    · omega
    · have hic' : i = 0 + W := by omega
      subst hic'
      have HE : Hid (Ends T R a1 (T1 ++ [93])) := hide (by
        have h2 := (unhide hEn).seq (q := fun a => (a, [93])) (Ends.put T1 [93] a1)
        refine (unhide HPUT).seq' (q := fun _ => ((elsG (genE s c m n l (f + 1)) A (0 + W)).1, (elsG (genE s c m n l (f + 1)) A (0 + W)).2 ++ [93])) h2 ?_
        rw [← unhide HR]; rfl)
      have hcv := conv_one wr 93
      have HKa := hide ((unhide hM).below ((Below.refl _ _).alloc (Nat.le_refl _) (.cells #[.int .u8 93] 5)))
      have HBa : Hid (But b w (wr.alloc (.cells #[.int .u8 93] 5))) := hide (((unhide HB3).trans (unhide hB)).alloc _)
      clear hEn
      go_wp2_with (first
        | (go_at_call 74; refine (rclosing_any _ _).mono ?_; rw [hcC]; rintro e w' ⟨rfl, hw⟩; replace hw := hw.symm; subst hw)
        | fail)
      refine (put_any (unhide HKa) (by omega) [93] _ rfl (by simp)).mono ?_
      rintro e w5 ⟨rfl, hk5, hb5⟩
      have HK5 := hide hk5
      have HB5 := hide ((unhide HBa).trans hb5)
      clear hk5 hb5
      go_wp2
      go_end0
      exact ⟨rfl, a1, _, unhide HK5, unhide HB5, unhide HE, by simp; omega, by simp; omega⟩

set_option maxHeartbeats 1000000 in
set_option maxRecDepth 1000000 in
theorem rbr_grp (v : Er s c m) {n : Nat} (hn : n ≤ 5000) (hE : SaidR b s c m B g n) (lq : Int) (p k f l a : Nat) (T : List Int) (w : World) (hk : Rm w b s c m B g a T) (hEA : EA w s k (fun j => j < B) p (f + 1)) (hl : lq = l) (hl9 : l ≤ 9) (hK : bt s f = 40) (hx : expFit s (nFit s l) (f + 1) = true)
    (hfl : f < s.size) (hd : dep s l (f + 1) < n) (hT : T.length ≤ 7000000) (ha : a ≤ T.length) :
    Calls Tryz.prog 36 #[.pointer (some ⟨b, 0, none⟩), .agg #[.int .u8 (bt s f), .pointer (some ⟨p, 0, none⟩)], .int .i64 lq] w fun e w' => OutR b s c m B g w T (genF s c m (genE s c m n) l f a) (max T.length (2001 + 1000 * n) + 3) e w' := by
  subst hl
  generalize hR : genF s c m (genE s c m n) l f a = R
  have h2 : cN (bt s f) = false := by rw [hK]; decide
  have hm1 := v.hm.1
  have hm5 := v.hm.2
  have hcnt : cnt s m l f = 1 := by unfold cnt; rw [hK]; rw [if_pos hx]; rfl
  unfold genF genB at hR
  rw [if_neg (by simp [h2]), if_pos (by rw [hK]; decide), hcnt, hK] at hR
  have H10 := hide (v.ten.sub f (by rw [hK]; decide))
  have hfew : few 40 = 1 := by decide
  have hWlt := wayN_lt c a (1) (by omega)
  have hAle := wayA_le a (1)
  generalize hWE : wayN c a (1) = W at *
  generalize hAE : wayA a (1) = A at *
  have HWE := hide hWE
  have HAE := hide hAE
  have hcC : cC 40 = 41 := by decide
  rw [hfew, hcC] at hR
  have hnm := nms_lows s 27
  have hH := low_nFit v.gram (l := l) (by omega) (f + 1)
  have hHb := low_bd (s := s) hnm (f + 1)
  have hLW := low_all v.gram.small hnm (B := B) k
  have hblt := hk.lt
  have hBb := hk.hB
  rw [hK]
  have hcv := conv_one (w.alloc (.cells #[.int .u8 40, .pointer (some ⟨p, 0, none⟩)] 67)) 40
  rw [World.size_alloc] at hcv
  obtain ⟨s1, s2, s3, s4⟩ := fac_start w 40 (.pointer (some ⟨p, 0, none⟩)) 67 5
  have HK := hide (hk.below s1)
  have HS1 := hide s1
  have HR := hide hR
  have HD := hide hd
  have HEA := hide hEA
  have hlow : low s (lowsF s 27) (f + 1) ≤ (l : Nat) := by exact hH.2 hx
  obtain ⟨nm, hnmE⟩ : ∃ nm, nm = lowsF s 27 := ⟨_, rfl⟩
  rw [← hnmE] at hlow hHb hLW hnm
  generalize hlv : low s nm (f + 1) = H at *
  have HLV := hide hlv
  have HNM := hide hnmE
  have HLW := hide hLW
  clear hR hk s1 hd hcnt hK hH hEA hlv h2 hnmE hLW hWE hAE
  go_enter Tryz.func36, Tryz.ntmps36
  go_wp2_with (first
    | (go_at_call 31; refine (name_any _ _).mono ?_; rintro e w' ⟨rfl, hw⟩; replace hw := hw.symm; subst hw; rw [show cN 40 = false by decide])
    | fail)
  refine (put_any (unhide HK) (by omega) [40] _ rfl (by simp)).mono ?_
  rintro e w1 ⟨rfl, hk1, hb1⟩
  have e0 := (hb1.cell (g := w.heap.size) (o := 0) (by omega) (by omega)).trans s2
  have e1 := (hb1.cell (g := w.heap.size) (o := 1) (by omega) (by omega)).trans s3
  have hz1 := hb1.size
  have HK1 := hide hk1
  have HB1 := hide ((But.of (b := b) (unhide HS1)).trans hb1)
  have HEA1 := hide (((unhide HEA).below (unhide HS1) (by omega)).but hb1 hBb (by omega))
  have HRG : Hid (w1.rangeAt b 1 (nms nm)) := hide (by rw [unhide HNM]; exact hk1.nam)
  have hw1 : B ≤ w1.heap.size := by omega
  clear hcv s2 s3 hk1 hb1
  go_wp2_with fail
  have hu := Tryz.underlying57
  have hin : (Tryz.prog.info? 57).map (·.size) = some (nms nm).length := by rw [nms_len]; exact Tryz.infoArr
  have hnl := nms_len nm
  have hno := nms_one nm
  go_region_held (fun w' => Below w1.heap.size w1 w' ∧ w'.cell? ⟨w.heap.size, 1, none⟩ = some (.pointer (some ⟨p, 0, none⟩)) ∧ w'.rangeAt b 1 (nms nm)) (first | exact keepO ((Below.refl _ _).drew) e1 (unhide HRG) | exact keepO (((Below.refl w1.heap.size w1).drew).trans hb2) e1 (unhide HRG)) (first | (go_at_call 70; refine (unhide HLW p (f + 1) _ ?_ ?_).mono ?_; exact hw1; exact (unhide HEA1).below ((Below.refl _ _).drew) hw1; rw [unhide HLV]; rintro e w2 ⟨rfl, hb2⟩))
  have hb2' : Below w1.heap.size w1 w2 := ((Below.refl _ _).drew).trans hb2
  have d0 := (hb2'.cell (p := ⟨w.heap.size, 0, none⟩) (by show w.heap.size < _; omega)).trans e0
  have d1 := (hb2'.cell (p := ⟨w.heap.size, 1, none⟩) (by show w.heap.size < _; omega)).trans e1
  have HK2 := hide ((unhide HK1).below hb2')
  have d27 := (unhide HK2).mst
  have HB2 := hide ((unhide HB1).trans (But.of hb2'))
  have HEA2 := hide ((unhide HEA1).below hb2' hw1)
  have hz2 := hb2'.size
  clear hu hin hnl hno hb2 hb2' e0 e1 HK1 HB1 HEA1 HRG
  go_wp2_with fail
  have hA1 : A = a := by rw [← unhide HAE]; rfl
  have hk3 : Hid (Rm w2 b s c m B g A (T ++ [40])) := hide (by rw [hA1]; exact unhide HK2)
  have hb3 : Hid (But b w2 w2) := hide (But.refl _ _)
  have f0 := (unhide hb3).cell (g := w.heap.size) (o := 0) (by omega) (by omega) |>.trans d0
  have f1 := (unhide hb3).cell (g := w.heap.size) (o := 1) (by omega) (by omega) |>.trans d1
  have hz3 := (unhide hb3).size
  have HB3 := hide ((unhide HB2).trans (unhide hb3))
  have HEA3 := hide ((unhide HEA2).but (unhide hb3) hBb (by omega))
  clear d0 d1 d27 HB2 HEA2 HK2 hb3
  have HPUT : Hid (Ends T (a, [40]) a (T ++ [40])) := hide (Ends.put T [40] a)
  go_loopw [10] (fun iv wr => ∃ (i a1 : Nat) (T1 : List Int), iv = .int .i64 i ∧ i ≤ 1 + W ∧ Hid (Rm wr b s c m B g a1 T1) ∧ Hid (But b w2 wr) ∧ Hid (Ends (T ++ [40]) (elsG (genE s c m n l (f + 1)) A i) a1 T1) ∧ a1 ≤ T1.length ∧ T1.length ≤ max (T.length + 1) (2001 + 1000 * n)) (fun iv _ => 30 - (intOf iv).toNat)
  case atStart => exact ⟨0, A, T ++ [40], by go_num, Nat.zero_le _, hk3, hide (But.refl _ _), hide (Ends.nil _ A), by simp; omega, by simp; omega⟩
  case round =>
    obtain ⟨i, a1, T1, rfl, hic, hM, hB, hEn, ha1, hT1⟩ := hrel
    have c30 := (unhide hM).out
    have hsz := strs_size T1
    have g0 := (unhide hB).cell (g := w.heap.size) (o := 0) (by omega) (by omega) |>.trans f0
    have g1 := (unhide hB).cell (g := w.heap.size) (o := 1) (by omega) (by omega) |>.trans f1
    have hzr := (unhide hB).size
    by_cases hlt : i < 1 + W
    · by_cases hbig : 2000 < T1.length
      · have HE : Hid (Ends T R a1 (T1 ++ [41])) := hide (by
          obtain ⟨r, hr⟩ := elsG_pre' (genE s c m n l (f + 1)) A i (1 + W) (by omega)
          have h1 := (unhide hEn).cut hbig (elsG (genE s c m n l (f + 1)) A (1 + W)).1 r
          have h2 := h1.seq (q := fun a => (a, [41])) (Ends.put T1 [41] a1)
          refine (unhide HPUT).seq' (q := fun _ => ((elsG (genE s c m n l (f + 1)) A (1 + W)).1, ((elsG (genE s c m n l (f + 1)) A i).2 ++ r) ++ [41])) h2 ?_
          rw [← unhide HR, hr]; rfl)
        have hbig' : (2000 : Int) < ((strOfNums T1).size : Int) := by omega
        have hcv := conv_one wr 41
        have HKa := hide ((unhide hM).below ((Below.refl _ _).alloc (Nat.le_refl _) (.cells #[.int .u8 41] 5)))
        have HBa : Hid (But b w (wr.alloc (.cells #[.int .u8 41] 5))) := hide (((unhide HB3).trans (unhide hB)).alloc _)
        clear hEn
        go_wp2_with (first
          | (go_at_call 74; refine (rclosing_any _ _).mono ?_; rw [hcC]; rintro e w' ⟨rfl, hw⟩; replace hw := hw.symm; subst hw)
          | fail)
        refine (put_any (unhide HKa) (by omega) [41] _ rfl (by simp)).mono ?_
        rintro e w5 ⟨rfl, hk5, hb5⟩
        have HK5 := hide hk5
        have HB5 := hide ((unhide HBa).trans hb5)
        clear hk5 hb5
        go_wp2
        go_end0
        exact ⟨rfl, a1, _, unhide HK5, unhide HB5, unhide HE, by simp; omega, by simp; omega⟩
      · have hbig' : ((strOfNums T1).size : Int) ≤ 2000 := by omega
        have HEr := hide ((unhide HEA3).but (unhide hB) hBb (by omega))
        by_cases hi0 : i = 0
        · subst hi0
          go_wp2_with fail
          refine (hE _ p (f + 1) k l a1 _ _ (unhide hM) (unhide HEr) rfl (by omega) (unhide H10) hl9 hx (unhide HD) (by omega) ha1).mono ?_
          rintro e w4 ⟨rfl, a4, T4, hk4, hb4, he4, ha4, hT4⟩
          have HK4 := hide hk4
          have HB4 := hide ((unhide hB).trans hb4)
          have HE4 := hide ((unhide hEn).seq (q := fun a => ((genE s c m n l (f + 1) a).1, [] ++ (genE s c m n l (f + 1) a).2)) (by simpa using he4))
          clear hk4 hb4 he4 hEn
          go_wp2
          go_roundw
          case rel => exact ⟨1, a4, T4, by go_num, by omega, HK4, HB4, HE4, ha4, by omega⟩
          case measure => simp [intOf]
        · omega
    · have hic' : i = 1 + W := by omega
      subst hic'
      have HE : Hid (Ends T R a1 (T1 ++ [41])) := hide (by
        have h2 := (unhide hEn).seq (q := fun a => (a, [41])) (Ends.put T1 [41] a1)
        refine (unhide HPUT).seq' (q := fun _ => ((elsG (genE s c m n l (f + 1)) A (1 + W)).1, (elsG (genE s c m n l (f + 1)) A (1 + W)).2 ++ [41])) h2 ?_
        rw [← unhide HR]; rfl)
      have hcv := conv_one wr 41
      have HKa := hide ((unhide hM).below ((Below.refl _ _).alloc (Nat.le_refl _) (.cells #[.int .u8 41] 5)))
      have HBa : Hid (But b w (wr.alloc (.cells #[.int .u8 41] 5))) := hide (((unhide HB3).trans (unhide hB)).alloc _)
      clear hEn
      go_wp2_with (first
        | (go_at_call 74; refine (rclosing_any _ _).mono ?_; rw [hcC]; rintro e w' ⟨rfl, hw⟩; replace hw := hw.symm; subst hw)
        | fail)
      refine (put_any (unhide HKa) (by omega) [41] _ rfl (by simp)).mono ?_
      rintro e w5 ⟨rfl, hk5, hb5⟩
      have HK5 := hide hk5
      have HB5 := hide ((unhide HBa).trans hb5)
      clear hk5 hb5
      go_wp2
      go_end0
      exact ⟨rfl, a1, _, unhide HK5, unhide HB5, unhide HE, by simp; omega, by simp; omega⟩
end
end Go.Proofs.YtnfaiaoipeholaaGreatDoor
