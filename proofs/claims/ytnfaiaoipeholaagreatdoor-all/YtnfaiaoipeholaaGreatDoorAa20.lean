/- RRecB -/
import Derived.Test.YtnfaiaoipeholaaGreatDoorAa19
namespace Go.Proofs.YtnfaiaoipeholaaGreatDoor
open Go.RowKit
section
variable {b : Nat} {s t : ByteArray} {m B g : Nat}

set_option maxHeartbeats 1000000 in
set_option maxRecDepth 1000000 in
theorem rrb_opt (v : Eq2 s t m) {n : Nat} (hE : SaidRR b s t m B g n) (lq : Int) (p k f l i j h : Nat) (T : List Int) (w : World) (hk : Rm w b s t m B g i T) (hEA : EA w s k (fun j => j < B) p (f + 1)) (hl : lq = l) (hl9 : l ≤ 9) (hK : bt s f = 91) (hx : expFit s (nFit s l) (f + 1) = true)
    (hfl : f < s.size) (hbi : bt t i = 91) (hp : pB s t 0 (pE s t 0 n) f (i + 1) = some (j, h)) (hhl : h ≤ l) (hT : T.length ≤ i) :
    Calls Tryz.prog 37 #[.pointer (some ⟨b, 0, none⟩), .agg #[.int .u8 (bt s f), .pointer (some ⟨p, 0, none⟩)], .int .i64 lq] w fun e w' => OutRR b s t m B g w j (T ++ dB s t m (pE s t 0 n) (dE s t m n) l f (i + 1)) e w' := by
  subst hl
  have ht := v.ht
  have hm1 := v.hm.1
  have hm5 := v.hm.2
  have hO : cO (bt s f) = true := by rw [hK]; decide
  have hOi : cO (bt t i) = true := by rw [hbi]; decide
  have hit : i < t.size := bt_lt (by omega)
  have hcnt : cnt s m l f = 2 := by unfold cnt; rw [hK]; rw [if_pos hx]; rfl
  have hfew : few (bt s f) = 0 := by rw [hK]; decide
  have hne := els_bracket (i := i) hO hp
  have hmx := v.gd i (Nat.zero_le _) hit hOi
  have hrc := rn_count hO hOi hp
  have hRest := Rest.start (s := s) (t := t) (D := T) (l := l) (dr := dE s t m n) (fun i j h e => pE_skip s t 0 n (f + 1) i j h e) hO hp m
  have hjt : j ≤ t.size := (pB_fwd (most := 0) (fun x i => pE_fwd s t 0 n x i) (by simpa [cO] using hO) j h hp).2.1
  have hC0 : 0 ≤ nB s t (pE s t 0 n) f (i + 1) := by omega
  rw [hcnt, hfew] at hRest
  have H10 := hide (v.ten.sub f hO)
  generalize hR : T ++ dB s t m (pE s t 0 n) (dE s t m n) l f (i + 1) = R at *
  generalize hC : nB s t (pE s t 0 n) f (i + 1) = C at *
  have hC5 : C ≤ m := by omega
  have hdl := dgt_len (2) (C - 0)
  have hnm := nms_lows s 27
  have hH := low_nFit v.gram (l := l) (by omega) (f + 1)
  have hHb := low_bd (s := s) hnm (f + 1)
  have hLW := low_all v.gram.small hnm (B := B) k
  have hblt := hk.lt
  have hBb := hk.hB
  rw [hK] at hRest ⊢
  obtain ⟨s1, s2, s3, s4⟩ := fac_one w 91 (.pointer (some ⟨p, 0, none⟩)) 67
  have HK := hide (hk.below s1)
  have HS1 := hide s1
  have HEA := hide (hEA.below s1 (by omega))
  have hlow : low s (lowsF s 27) (f + 1) ≤ (l : Nat) := by exact hH.2 hx
  obtain ⟨nm, hnmE⟩ : ∃ nm, nm = lowsF s 27 := ⟨_, rfl⟩
  rw [← hnmE] at hlow hHb hLW hnm
  generalize hlv : low s nm (f + 1) = H at *
  have HLV := hide hlv
  have HNM := hide hnmE
  have HLW := hide hLW
  have HRE := hide hRest
  have HRC := hide hrc
  clear hk s1 hcnt hK hH hEA hlv hnmE hLW hRest hrc hne hmx hp hC hR hO hOi hbi hfew
  go_enter Tryz.func37, Tryz.ntmps37
  go_wp2_with fail
  generalize w.alloc (.cells #[.int .u8 91, .pointer (some ⟨p, 0, none⟩)] 67) = w0 at *
  have c29 := (unhide HK).tak
  have f29 := (unhide HK).tkf
  refine (name_any _ _).mono ?_
  rw [show cN 91 = false by decide]
  rintro e w' ⟨rfl, hw⟩
  replace hw := hw.symm; subst hw
  have HK1 := hide ((unhide HK).takeI (i + 1) (x := (i : Int) + 1) (by omega))
  have hb1 := But.set b 29 w0 (.int .i64 ((i : Int) + 1))
  have HB1 := hide ((But.of (b := b) (unhide HS1)).trans hb1)
  have e0 := (hb1.cell (g := w.heap.size) (o := 0) (by omega) (by omega)).trans s2
  have e1 := (hb1.cell (g := w.heap.size) (o := 1) (by omega) (by omega)).trans s3
  have hz1 := hb1.size
  have HEA1 := hide ((unhide HEA).but hb1 hBb (by omega))
  have c28 := (unhide HK1).chs
  clear hb1
  go_wp2_with fail
  generalize w0.setCell ⟨b, 29, none⟩ (.int .i64 ((i : Int) + 1)) = w1 at *
  clear c29 f29 s2 s3
  refine (relements_any t _ i _ ht rfl hit).mono ?_
  rw [unhide HRC]
  rintro e w2 ⟨ao, cap, rfl, hb2⟩
  have hz2 := hb2.size
  have d0 := (hb2.cell (p := ⟨w.heap.size, 0, none⟩) (by show w.heap.size < _; omega)).trans e0
  have d1 := (hb2.cell (p := ⟨w.heap.size, 1, none⟩) (by show w.heap.size < _; omega)).trans e1
  have HK2 := hide ((unhide HK1).below hb2)
  have HB2 := hide ((unhide HB1).trans (But.of hb2))
  have HEA2 := hide ((unhide HEA1).below hb2 (by omega))
  have HRG : Hid (w2.rangeAt b 1 (nms nm)) := hide (by rw [unhide HNM]; exact (unhide HK2).nam)
  have hw2 : B ≤ w2.heap.size := by omega
  clear hb2 e0 e1 c28
  go_wp2_with fail
  have hu := Tryz.underlying57
  have hin : (Tryz.prog.info? 57).map (·.size) = some (nms nm).length := by rw [nms_len]; exact Tryz.infoArr
  have hnl := nms_len nm
  have hno := nms_one nm
  go_region_held (fun w' => Below w2.heap.size w2 w' ∧ w'.cell? ⟨w.heap.size, 1, none⟩ = some (.pointer (some ⟨p, 0, none⟩)) ∧ w'.rangeAt b 1 (nms nm)) (first | exact keepO ((Below.refl _ _).drew) d1 (unhide HRG) | exact keepO (((Below.refl w2.heap.size w2).drew).trans hb3) d1 (unhide HRG)) (first | (go_at_call 70; refine (unhide HLW p (f + 1) _ ?_ ?_).mono ?_; exact hw2; exact (unhide HEA2).below ((Below.refl _ _).drew) hw2; rw [unhide HLV]; rintro e w3 ⟨rfl, hb3⟩))
  have hb3' : Below w2.heap.size w2 w3 := ((Below.refl _ _).drew).trans hb3
  have g0 := (hb3'.cell (p := ⟨w.heap.size, 0, none⟩) (by show w.heap.size < _; omega)).trans d0
  have g1 := (hb3'.cell (p := ⟨w.heap.size, 1, none⟩) (by show w.heap.size < _; omega)).trans d1
  have HK3 := hide ((unhide HK2).below hb3')
  have c27 := (unhide HK3).mst
  have HB3 := hide ((unhide HB2).trans (But.of hb3'))
  have HEA3 := hide ((unhide HEA2).below hb3' hw2)
  have hz3 := hb3'.size
  clear hu hin hnl hno hb3 hb3' d0 d1 HK1 HB1 HEA1 HRG HK2 HB2 HEA2
  go_wp2_with fail
  refine (took_any (unhide HK3) (by omega) _ _ (2) (C - 0) (by omega) (by omega) (by omega) (by omega)).mono ?_
  rintro e w4 ⟨rfl, hk4, hb4⟩
  replace hk4 := hide hk4
  replace hb4 := hide hb4
  go_wp2
  have q0 := (unhide hb4).cell (g := w.heap.size) (o := 0) (by omega) (by omega) |>.trans g0
  have q1 := (unhide hb4).cell (g := w.heap.size) (o := 1) (by omega) (by omega) |>.trans g1
  have hz4 := (unhide hb4).size
  have HB4 := hide ((unhide HB3).trans (unhide hb4))
  have HEA4 := hide ((unhide HEA3).but (unhide hb4) hBb (by omega))
  generalize hDD : T ++ dgt (2) (C - 0) = DD at *
  have hDDl : DD.length ≤ i + 1 := by rw [← hDD]; simp only [List.length_append]; omega
  clear hDD hdl g0 g1 c27 HB3 HEA3 HK3 hb4
  go_loopw [10] (fun iv wr => ∃ (k1 q : Nat) (D1 : List Int), iv = .int .i64 k1 ∧ k1 ≤ C ∧ q + 1 ≤ t.size ∧ Hid (Rm wr b s t m B g (if k1 = 0 then q else q + 1) D1) ∧ Hid (But b w4 wr) ∧ Hid (Rest t (pE s t 0 n (f + 1)) (dE s t m n l (f + 1)) (cC 91) j h k1 C q D1 R) ∧ D1.length ≤ q) (fun iv _ => 30 - (intOf iv).toNat)
  case atStart =>
    refine ⟨0, i + 1, DD, by go_num, Nat.zero_le _, ?_, by rw [if_pos rfl]; exact hk4, hide (But.refl _ _), HRE, hDDl⟩
    have := (pE_ends (unhide HRE)); omega
  case round =>
    obtain ⟨k1, q, D1, rfl, hkc, hqt, hM, hB, hRe, hD1⟩ := hrel
    have r1 := (unhide hB).cell (g := w.heap.size) (o := 1) (by omega) (by omega) |>.trans q1
    have hzr := (unhide hB).size
    by_cases hlt : k1 < C
    · obtain ⟨a, k', hq1, hk', hRe'⟩ := (unhide hRe).more hlt
      have hfw := pE_fwd s t 0 n _ _ a k' hq1
      have hae := pE_ends hRe'
      have HQ := hide hq1
      have HRe := hide hRe'
      have HEr := hide ((unhide HEA4).but (unhide hB) hBb (by omega))
      have hD1' : D1.length ≤ (if k1 = 0 then q else q + 1) := by split <;> omega
      clear hq1 hRe' hRe
      go_wp2_with fail
      refine (hE _ p (f + 1) k l _ a k' D1 _ (unhide hM) (unhide HEr) rfl (by omega) (unhide H10) hl9 (unhide HQ) (by omega) hD1').mono ?_
      rintro e w5 ⟨rfl, hk5, hb5, hD5⟩
      have c29 := hk5.tak
      have f29 := hk5.tkf
      have HT5 := hide (hk5.takeI (a + 1) (x := (a : Int) + 1) (by omega))
      have HB5 := hide (((unhide hB).trans hb5).trans (But.set b 29 w5 (.int .i64 ((a : Int) + 1))))
      clear hk5 hb5 hM
      go_wp2
      go_roundw
      case rel => exact ⟨k1 + 1, a, _, by go_num, by omega, by omega, by rw [if_neg (by omega)]; exact HT5, HB5, HRe, by omega⟩
      case measure => simp [intOf]; omega
    · have hkC : k1 = C := by omega
      subst hkC
      have hend : q + 1 = j ∧ D1 = R := by
        rcases unhide hRe with ⟨_, a, b⟩ | ⟨a, _⟩
        · exact ⟨a, b⟩
        · omega
      obtain ⟨he1, he2⟩ := hend
      subst he1 he2
      clear hRe
      by_cases hC00 : k1 = 0
      · have hC00' : ((k1 : Int) == 0) = true := by simp [hC00]
        rw [if_pos hC00] at hM
        have c29 := (unhide hM).tak
        have f29 := (unhide hM).tkf
        have HT5 := hide ((unhide hM).takeI (q + 1) (x := (q : Int) + 1) (by omega))
        clear hM
        go_wp2
        go_end0
        exact ⟨rfl, unhide HT5, ((unhide HB4).trans (unhide hB)).trans (But.set _ _ _ _), by omega⟩
      · have hC00' : ((k1 : Int) == 0) = false := by simp only [beq_eq_false_iff_ne]; omega
        rw [if_neg hC00] at hM
        go_wp2
        go_end0
        exact ⟨rfl, unhide hM, (unhide HB4).trans (unhide hB), by omega⟩

set_option maxHeartbeats 1000000 in
set_option maxRecDepth 1000000 in
theorem rrb_optn (v : Eq2 s t m) {n : Nat} (_hE : SaidRR b s t m B g n) (lq : Int) (p k f l i j h : Nat) (T : List Int) (w : World) (hk : Rm w b s t m B g i T) (hEA : EA w s k (fun j => j < B) p (f + 1)) (hl : lq = l) (hl9 : l ≤ 9) (hK : bt s f = 91) (hx : expFit s (nFit s l) (f + 1) = false)
    (_hfl : f < s.size) (hbi : bt t i = 91) (hp : pB s t 0 (pE s t 0 n) f (i + 1) = some (j, h)) (hhl : h ≤ l) (hT : T.length ≤ i) :
    Calls Tryz.prog 37 #[.pointer (some ⟨b, 0, none⟩), .agg #[.int .u8 (bt s f), .pointer (some ⟨p, 0, none⟩)], .int .i64 lq] w fun e w' => OutRR b s t m B g w j (T ++ dB s t m (pE s t 0 n) (dE s t m n) l f (i + 1)) e w' := by
  subst hl
  have ht := v.ht
  have hm1 := v.hm.1
  have hm5 := v.hm.2
  have hO : cO (bt s f) = true := by rw [hK]; decide
  have hOi : cO (bt t i) = true := by rw [hbi]; decide
  have hit : i < t.size := bt_lt (by omega)
  have hcnt : cnt s m l f = 1 := by unfold cnt; rw [hK]; rw [if_neg (by simp [hx])]
  have hfew : few (bt s f) = 0 := by rw [hK]; decide
  have hne := els_bracket (i := i) hO hp
  have hmx := v.gd i (Nat.zero_le _) hit hOi
  have hrc := rn_count hO hOi hp
  have hRest := Rest.start (s := s) (t := t) (D := T) (l := l) (dr := dE s t m n) (fun i j h e => pE_skip s t 0 n (f + 1) i j h e) hO hp m
  have hjt : j ≤ t.size := (pB_fwd (most := 0) (fun x i => pE_fwd s t 0 n x i) (by simpa [cO] using hO) j h hp).2.1
  have hC0 : nB s t (pE s t 0 n) f (i + 1) = 0 := by exact nB_none hp hhl hx
  rw [hcnt, hfew] at hRest
  have H10 := hide (v.ten.sub f hO)
  generalize hR : T ++ dB s t m (pE s t 0 n) (dE s t m n) l f (i + 1) = R at *
  generalize hC : nB s t (pE s t 0 n) f (i + 1) = C at *
  have hC5 : C ≤ m := by omega
  have hdl := dgt_len (1) (C - 0)
  have hnm := nms_lows s 27
  have hH := low_nFit v.gram (l := l) (by omega) (f + 1)
  have hHb := low_bd (s := s) hnm (f + 1)
  have hLW := low_all v.gram.small hnm (B := B) k
  have hblt := hk.lt
  have hBb := hk.hB
  rw [hK] at hRest ⊢
  obtain ⟨s1, s2, s3, s4⟩ := fac_one w 91 (.pointer (some ⟨p, 0, none⟩)) 67
  have HK := hide (hk.below s1)
  have HS1 := hide s1
  have HEA := hide (hEA.below s1 (by omega))
  have hlow : (l : Int) < low s (lowsF s 27) (f + 1) := by exact Int.not_le.1 (fun e => by rw [hH.1 e] at hx; cases hx)
  obtain ⟨nm, hnmE⟩ : ∃ nm, nm = lowsF s 27 := ⟨_, rfl⟩
  rw [← hnmE] at hlow hHb hLW hnm
  generalize hlv : low s nm (f + 1) = H at *
  have HLV := hide hlv
  have HNM := hide hnmE
  have HLW := hide hLW
  have HRE := hide hRest
  have HRC := hide hrc
  clear hk s1 hcnt hK hH hEA hlv hnmE hLW hRest hrc hne hmx hp hC hR hO hOi hbi hfew
  go_enter Tryz.func37, Tryz.ntmps37
  go_wp2_with fail
  generalize w.alloc (.cells #[.int .u8 91, .pointer (some ⟨p, 0, none⟩)] 67) = w0 at *
  have c29 := (unhide HK).tak
  have f29 := (unhide HK).tkf
  refine (name_any _ _).mono ?_
  rw [show cN 91 = false by decide]
  rintro e w' ⟨rfl, hw⟩
  replace hw := hw.symm; subst hw
  have HK1 := hide ((unhide HK).takeI (i + 1) (x := (i : Int) + 1) (by omega))
  have hb1 := But.set b 29 w0 (.int .i64 ((i : Int) + 1))
  have HB1 := hide ((But.of (b := b) (unhide HS1)).trans hb1)
  have e0 := (hb1.cell (g := w.heap.size) (o := 0) (by omega) (by omega)).trans s2
  have e1 := (hb1.cell (g := w.heap.size) (o := 1) (by omega) (by omega)).trans s3
  have hz1 := hb1.size
  have HEA1 := hide ((unhide HEA).but hb1 hBb (by omega))
  have c28 := (unhide HK1).chs
  clear hb1
  go_wp2_with fail
  generalize w0.setCell ⟨b, 29, none⟩ (.int .i64 ((i : Int) + 1)) = w1 at *
  clear c29 f29 s2 s3
  refine (relements_any t _ i _ ht rfl hit).mono ?_
  rw [unhide HRC]
  rintro e w2 ⟨ao, cap, rfl, hb2⟩
  have hz2 := hb2.size
  have d0 := (hb2.cell (p := ⟨w.heap.size, 0, none⟩) (by show w.heap.size < _; omega)).trans e0
  have d1 := (hb2.cell (p := ⟨w.heap.size, 1, none⟩) (by show w.heap.size < _; omega)).trans e1
  have HK2 := hide ((unhide HK1).below hb2)
  have HB2 := hide ((unhide HB1).trans (But.of hb2))
  have HEA2 := hide ((unhide HEA1).below hb2 (by omega))
  have HRG : Hid (w2.rangeAt b 1 (nms nm)) := hide (by rw [unhide HNM]; exact (unhide HK2).nam)
  have hw2 : B ≤ w2.heap.size := by omega
  clear hb2 e0 e1 c28
  go_wp2_with fail
  have hu := Tryz.underlying57
  have hin : (Tryz.prog.info? 57).map (·.size) = some (nms nm).length := by rw [nms_len]; exact Tryz.infoArr
  have hnl := nms_len nm
  have hno := nms_one nm
  go_region_held (fun w' => Below w2.heap.size w2 w' ∧ w'.cell? ⟨w.heap.size, 1, none⟩ = some (.pointer (some ⟨p, 0, none⟩)) ∧ w'.rangeAt b 1 (nms nm)) (first | exact keepO ((Below.refl _ _).drew) d1 (unhide HRG) | exact keepO (((Below.refl w2.heap.size w2).drew).trans hb3) d1 (unhide HRG)) (first | (go_at_call 70; refine (unhide HLW p (f + 1) _ ?_ ?_).mono ?_; exact hw2; exact (unhide HEA2).below ((Below.refl _ _).drew) hw2; rw [unhide HLV]; rintro e w3 ⟨rfl, hb3⟩))
  have hb3' : Below w2.heap.size w2 w3 := ((Below.refl _ _).drew).trans hb3
  have g0 := (hb3'.cell (p := ⟨w.heap.size, 0, none⟩) (by show w.heap.size < _; omega)).trans d0
  have g1 := (hb3'.cell (p := ⟨w.heap.size, 1, none⟩) (by show w.heap.size < _; omega)).trans d1
  have HK3 := hide ((unhide HK2).below hb3')
  have c27 := (unhide HK3).mst
  have HB3 := hide ((unhide HB2).trans (But.of hb3'))
  have HEA3 := hide ((unhide HEA2).below hb3' hw2)
  have hz3 := hb3'.size
  clear hu hin hnl hno hb3 hb3' d0 d1 HK1 HB1 HEA1 HRG HK2 HB2 HEA2
  have hdn : dgt 1 (C - 0) = [] := by unfold dgt; rw [if_neg (by omega)]
  have hk4 : Hid (Rm w3 b s t m B g (i + 1) (T ++ dgt 1 (C - 0))) := hide (by rw [hdn, List.append_nil]; exact unhide HK3)
  have hb4 : Hid (But b w3 w3) := hide (But.refl _ _)
  clear hdn
  go_wp2
  have q0 := (unhide hb4).cell (g := w.heap.size) (o := 0) (by omega) (by omega) |>.trans g0
  have q1 := (unhide hb4).cell (g := w.heap.size) (o := 1) (by omega) (by omega) |>.trans g1
  have hz4 := (unhide hb4).size
  have HB4 := hide ((unhide HB3).trans (unhide hb4))
  have HEA4 := hide ((unhide HEA3).but (unhide hb4) hBb (by omega))
  generalize hDD : T ++ dgt (1) (C - 0) = DD at *
  have hDDl : DD.length ≤ i + 1 := by rw [← hDD]; simp only [List.length_append]; omega
  clear hDD hdl g0 g1 c27 HB3 HEA3 HK3 hb4
  go_loopw [10] (fun iv wr => ∃ (k1 q : Nat) (D1 : List Int), iv = .int .i64 k1 ∧ k1 ≤ C ∧ q + 1 ≤ t.size ∧ Hid (Rm wr b s t m B g (if k1 = 0 then q else q + 1) D1) ∧ Hid (But b w3 wr) ∧ Hid (Rest t (pE s t 0 n (f + 1)) (dE s t m n l (f + 1)) (cC 91) j h k1 C q D1 R) ∧ D1.length ≤ q) (fun iv _ => 30 - (intOf iv).toNat)
  case atStart =>
    refine ⟨0, i + 1, DD, by go_num, Nat.zero_le _, ?_, by rw [if_pos rfl]; exact hk4, hide (But.refl _ _), HRE, hDDl⟩
    have := (pE_ends (unhide HRE)); omega
  case round =>
    obtain ⟨k1, q, D1, rfl, hkc, hqt, hM, hB, hRe, hD1⟩ := hrel
    have r1 := (unhide hB).cell (g := w.heap.size) (o := 1) (by omega) (by omega) |>.trans q1
    have hzr := (unhide hB).size
    by_cases hlt : k1 < C
    · omega
    · have hkC : k1 = C := by omega
      subst hkC
      have hend : q + 1 = j ∧ D1 = R := by
        rcases unhide hRe with ⟨_, a, b⟩ | ⟨a, _⟩
        · exact ⟨a, b⟩
        · omega
      obtain ⟨he1, he2⟩ := hend
      subst he1 he2
      clear hRe
      have hC00 : k1 = 0 := by omega
      have hC00' : ((k1 : Int) == 0) = true := by simp [hC00]
      rw [if_pos hC00] at hM
      have c29 := (unhide hM).tak
      have f29 := (unhide hM).tkf
      have HT5 := hide ((unhide hM).takeI (q + 1) (x := (q : Int) + 1) (by omega))
      clear hM
      go_wp2
      go_end0
      exact ⟨rfl, unhide HT5, ((unhide HB4).trans (unhide hB)).trans (But.set _ _ _ _), by omega⟩

set_option maxHeartbeats 1000000 in
set_option maxRecDepth 1000000 in
theorem rrb_grp (v : Eq2 s t m) {n : Nat} (hE : SaidRR b s t m B g n) (lq : Int) (p k f l i j h : Nat) (T : List Int) (w : World) (hk : Rm w b s t m B g i T) (hEA : EA w s k (fun j => j < B) p (f + 1)) (hl : lq = l) (hl9 : l ≤ 9) (hK : bt s f = 40) (hx : expFit s (nFit s l) (f + 1) = true)
    (hfl : f < s.size) (hbi : bt t i = 40) (hp : pB s t 0 (pE s t 0 n) f (i + 1) = some (j, h)) (hhl : h ≤ l) (hT : T.length ≤ i) :
    Calls Tryz.prog 37 #[.pointer (some ⟨b, 0, none⟩), .agg #[.int .u8 (bt s f), .pointer (some ⟨p, 0, none⟩)], .int .i64 lq] w fun e w' => OutRR b s t m B g w j (T ++ dB s t m (pE s t 0 n) (dE s t m n) l f (i + 1)) e w' := by
  subst hl
  have ht := v.ht
  have hm1 := v.hm.1
  have hm5 := v.hm.2
  have hO : cO (bt s f) = true := by rw [hK]; decide
  have hOi : cO (bt t i) = true := by rw [hbi]; decide
  have hit : i < t.size := bt_lt (by omega)
  have hcnt : cnt s m l f = 1 := by unfold cnt; rw [hK]; rw [if_pos hx]; rfl
  have hfew : few (bt s f) = 1 := by rw [hK]; decide
  have hne := els_bracket (i := i) hO hp
  have hmx := v.gd i (Nat.zero_le _) hit hOi
  have hrc := rn_count hO hOi hp
  have hRest := Rest.start (s := s) (t := t) (D := T) (l := l) (dr := dE s t m n) (fun i j h e => pE_skip s t 0 n (f + 1) i j h e) hO hp m
  have hjt : j ≤ t.size := (pB_fwd (most := 0) (fun x i => pE_fwd s t 0 n x i) (by simpa [cO] using hO) j h hp).2.1
  have hC0 : 1 ≤ nB s t (pE s t 0 n) f (i + 1) := by exact nB_one (by rw [hK]; decide) hO hp
  rw [hcnt, hfew] at hRest
  have H10 := hide (v.ten.sub f hO)
  generalize hR : T ++ dB s t m (pE s t 0 n) (dE s t m n) l f (i + 1) = R at *
  generalize hC : nB s t (pE s t 0 n) f (i + 1) = C at *
  have hC5 : C ≤ m := by omega
  have hdl := dgt_len (1) (C - 1)
  have hnm := nms_lows s 27
  have hH := low_nFit v.gram (l := l) (by omega) (f + 1)
  have hHb := low_bd (s := s) hnm (f + 1)
  have hLW := low_all v.gram.small hnm (B := B) k
  have hblt := hk.lt
  have hBb := hk.hB
  rw [hK] at hRest ⊢
  obtain ⟨s1, s2, s3, s4⟩ := fac_one w 40 (.pointer (some ⟨p, 0, none⟩)) 67
  have HK := hide (hk.below s1)
  have HS1 := hide s1
  have HEA := hide (hEA.below s1 (by omega))
  have hlow : low s (lowsF s 27) (f + 1) ≤ (l : Nat) := by exact hH.2 hx
  obtain ⟨nm, hnmE⟩ : ∃ nm, nm = lowsF s 27 := ⟨_, rfl⟩
  rw [← hnmE] at hlow hHb hLW hnm
  generalize hlv : low s nm (f + 1) = H at *
  have HLV := hide hlv
  have HNM := hide hnmE
  have HLW := hide hLW
  have HRE := hide hRest
  have HRC := hide hrc
  clear hk s1 hcnt hK hH hEA hlv hnmE hLW hRest hrc hne hmx hp hC hR hO hOi hbi hfew
  go_enter Tryz.func37, Tryz.ntmps37
  go_wp2_with fail
  generalize w.alloc (.cells #[.int .u8 40, .pointer (some ⟨p, 0, none⟩)] 67) = w0 at *
  have c29 := (unhide HK).tak
  have f29 := (unhide HK).tkf
  refine (name_any _ _).mono ?_
  rw [show cN 40 = false by decide]
  rintro e w' ⟨rfl, hw⟩
  replace hw := hw.symm; subst hw
  have HK1 := hide ((unhide HK).takeI (i + 1) (x := (i : Int) + 1) (by omega))
  have hb1 := But.set b 29 w0 (.int .i64 ((i : Int) + 1))
  have HB1 := hide ((But.of (b := b) (unhide HS1)).trans hb1)
  have e0 := (hb1.cell (g := w.heap.size) (o := 0) (by omega) (by omega)).trans s2
  have e1 := (hb1.cell (g := w.heap.size) (o := 1) (by omega) (by omega)).trans s3
  have hz1 := hb1.size
  have HEA1 := hide ((unhide HEA).but hb1 hBb (by omega))
  have c28 := (unhide HK1).chs
  clear hb1
  go_wp2_with fail
  generalize w0.setCell ⟨b, 29, none⟩ (.int .i64 ((i : Int) + 1)) = w1 at *
  clear c29 f29 s2 s3
  refine (relements_any t _ i _ ht rfl hit).mono ?_
  rw [unhide HRC]
  rintro e w2 ⟨ao, cap, rfl, hb2⟩
  have hz2 := hb2.size
  have d0 := (hb2.cell (p := ⟨w.heap.size, 0, none⟩) (by show w.heap.size < _; omega)).trans e0
  have d1 := (hb2.cell (p := ⟨w.heap.size, 1, none⟩) (by show w.heap.size < _; omega)).trans e1
  have HK2 := hide ((unhide HK1).below hb2)
  have HB2 := hide ((unhide HB1).trans (But.of hb2))
  have HEA2 := hide ((unhide HEA1).below hb2 (by omega))
  have HRG : Hid (w2.rangeAt b 1 (nms nm)) := hide (by rw [unhide HNM]; exact (unhide HK2).nam)
  have hw2 : B ≤ w2.heap.size := by omega
  clear hb2 e0 e1 c28
  go_wp2_with fail
  have hu := Tryz.underlying57
  have hin : (Tryz.prog.info? 57).map (·.size) = some (nms nm).length := by rw [nms_len]; exact Tryz.infoArr
  have hnl := nms_len nm
  have hno := nms_one nm
  go_region_held (fun w' => Below w2.heap.size w2 w' ∧ w'.cell? ⟨w.heap.size, 1, none⟩ = some (.pointer (some ⟨p, 0, none⟩)) ∧ w'.rangeAt b 1 (nms nm)) (first | exact keepO ((Below.refl _ _).drew) d1 (unhide HRG) | exact keepO (((Below.refl w2.heap.size w2).drew).trans hb3) d1 (unhide HRG)) (first | (go_at_call 70; refine (unhide HLW p (f + 1) _ ?_ ?_).mono ?_; exact hw2; exact (unhide HEA2).below ((Below.refl _ _).drew) hw2; rw [unhide HLV]; rintro e w3 ⟨rfl, hb3⟩))
  have hb3' : Below w2.heap.size w2 w3 := ((Below.refl _ _).drew).trans hb3
  have g0 := (hb3'.cell (p := ⟨w.heap.size, 0, none⟩) (by show w.heap.size < _; omega)).trans d0
  have g1 := (hb3'.cell (p := ⟨w.heap.size, 1, none⟩) (by show w.heap.size < _; omega)).trans d1
  have HK3 := hide ((unhide HK2).below hb3')
  have c27 := (unhide HK3).mst
  have HB3 := hide ((unhide HB2).trans (But.of hb3'))
  have HEA3 := hide ((unhide HEA2).below hb3' hw2)
  have hz3 := hb3'.size
  clear hu hin hnl hno hb3 hb3' d0 d1 HK1 HB1 HEA1 HRG HK2 HB2 HEA2
  have hdn : dgt 1 (C - 1) = [] := by unfold dgt; rw [if_neg (by omega)]
  have hk4 : Hid (Rm w3 b s t m B g (i + 1) (T ++ dgt 1 (C - 1))) := hide (by rw [hdn, List.append_nil]; exact unhide HK3)
  have hb4 : Hid (But b w3 w3) := hide (But.refl _ _)
  clear hdn
  go_wp2
  have q0 := (unhide hb4).cell (g := w.heap.size) (o := 0) (by omega) (by omega) |>.trans g0
  have q1 := (unhide hb4).cell (g := w.heap.size) (o := 1) (by omega) (by omega) |>.trans g1
  have hz4 := (unhide hb4).size
  have HB4 := hide ((unhide HB3).trans (unhide hb4))
  have HEA4 := hide ((unhide HEA3).but (unhide hb4) hBb (by omega))
  generalize hDD : T ++ dgt (1) (C - 1) = DD at *
  have hDDl : DD.length ≤ i + 1 := by rw [← hDD]; simp only [List.length_append]; omega
  clear hDD hdl g0 g1 c27 HB3 HEA3 HK3 hb4
  go_loopw [10] (fun iv wr => ∃ (k1 q : Nat) (D1 : List Int), iv = .int .i64 k1 ∧ k1 ≤ C ∧ q + 1 ≤ t.size ∧ Hid (Rm wr b s t m B g (if k1 = 0 then q else q + 1) D1) ∧ Hid (But b w3 wr) ∧ Hid (Rest t (pE s t 0 n (f + 1)) (dE s t m n l (f + 1)) (cC 40) j h k1 C q D1 R) ∧ D1.length ≤ q) (fun iv _ => 30 - (intOf iv).toNat)
  case atStart =>
    refine ⟨0, i + 1, DD, by go_num, Nat.zero_le _, ?_, by rw [if_pos rfl]; exact hk4, hide (But.refl _ _), HRE, hDDl⟩
    have := (pE_ends (unhide HRE)); omega
  case round =>
    obtain ⟨k1, q, D1, rfl, hkc, hqt, hM, hB, hRe, hD1⟩ := hrel
    have r1 := (unhide hB).cell (g := w.heap.size) (o := 1) (by omega) (by omega) |>.trans q1
    have hzr := (unhide hB).size
    by_cases hlt : k1 < C
    · obtain ⟨a, k', hq1, hk', hRe'⟩ := (unhide hRe).more hlt
      have hfw := pE_fwd s t 0 n _ _ a k' hq1
      have hae := pE_ends hRe'
      have HQ := hide hq1
      have HRe := hide hRe'
      have HEr := hide ((unhide HEA4).but (unhide hB) hBb (by omega))
      have hD1' : D1.length ≤ (if k1 = 0 then q else q + 1) := by split <;> omega
      clear hq1 hRe' hRe
      go_wp2_with fail
      refine (hE _ p (f + 1) k l _ a k' D1 _ (unhide hM) (unhide HEr) rfl (by omega) (unhide H10) hl9 (unhide HQ) (by omega) hD1').mono ?_
      rintro e w5 ⟨rfl, hk5, hb5, hD5⟩
      have c29 := hk5.tak
      have f29 := hk5.tkf
      have HT5 := hide (hk5.takeI (a + 1) (x := (a : Int) + 1) (by omega))
      have HB5 := hide (((unhide hB).trans hb5).trans (But.set b 29 w5 (.int .i64 ((a : Int) + 1))))
      clear hk5 hb5 hM
      go_wp2
      go_roundw
      case rel => exact ⟨k1 + 1, a, _, by go_num, by omega, by omega, by rw [if_neg (by omega)]; exact HT5, HB5, HRe, by omega⟩
      case measure => simp [intOf]; omega
    · have hkC : k1 = C := by omega
      subst hkC
      have hend : q + 1 = j ∧ D1 = R := by
        rcases unhide hRe with ⟨_, a, b⟩ | ⟨a, _⟩
        · exact ⟨a, b⟩
        · omega
      obtain ⟨he1, he2⟩ := hend
      subst he1 he2
      clear hRe
      have hC00 : ¬ k1 = 0 := by omega
      have hC00' : ((k1 : Int) == 0) = false := by simp only [beq_eq_false_iff_ne]; omega
      rw [if_neg hC00] at hM
      go_wp2
      go_end0
      exact ⟨rfl, unhide hM, (unhide HB4).trans (unhide hB), by omega⟩
end
end Go.Proofs.YtnfaiaoipeholaaGreatDoor
