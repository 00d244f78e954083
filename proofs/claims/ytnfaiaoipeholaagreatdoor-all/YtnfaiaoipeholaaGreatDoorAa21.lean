/- RRecC RRecE -/
import Derived.Test.YtnfaiaoipeholaaGreatDoorAa19
import Derived.Test.YtnfaiaoipeholaaGreatDoorAa20
namespace Go.Proofs.YtnfaiaoipeholaaGreatDoor
open Go.RowKit
section
variable {b : Nat} {s t : ByteArray} {m B g : Nat}

set_option maxHeartbeats 1000000 in
set_option maxRecDepth 1000000 in
theorem rrb_lst (v : Eq2 s t m) {n : Nat} (hE : SaidRR b s t m B g n) (lq : Int) (p k f l i j h : Nat) (T : List Int) (w : World) (hk : Rm w b s t m B g i T) (hEA : EA w s k (fun j => j < B) p (f + 1)) (hl : lq = l) (hl9 : l ≤ 9) (hK : bt s f = 123) (hx : expFit s (nFit s l) (f + 1) = true)
    (hfl : f < s.size) (hbi : bt t i = 123) (hp : pB s t 0 (pE s t 0 n) f (i + 1) = some (j, h)) (hhl : h ≤ l) (hT : T.length ≤ i) :
    Calls Tryz.prog 37 #[.pointer (some ⟨b, 0, none⟩), .agg #[.int .u8 (bt s f), .pointer (some ⟨p, 0, none⟩)], .int .i64 lq] w fun e w' => OutRR b s t m B g w j (T ++ dB s t m (pE s t 0 n) (dE s t m n) l f (i + 1)) e w' := by
  subst hl
  have ht := v.ht
  have hm1 := v.hm.1
  have hm5 := v.hm.2
  have hO : cO (bt s f) = true := by rw [hK]; decide
  have hOi : cO (bt t i) = true := by rw [hbi]; decide
  have hit : i < t.size := bt_lt (by omega)
  have hcnt : cnt s m l f = m + 1 := by unfold cnt; rw [hK]; rw [if_pos hx]; simp [grt, few]
  have hfew : few (bt s f) = 0 := by rw [hK]; decide
  have hne := els_bracket (i := i) hO hp
  have hmx := v.gd i (Nat.zero_le _) hit hOi
  have hrc := rn_count hO hOi hp
  have hRest := Rest.start (s := s) (t := t) (D := T) (l := l) (dr := dE s t m n) (fun i j h e => pE_skip s t 0 n (f + 1) i j h e) hO hp m
  have hjt : j ≤ t.size := (pB_fwd (most := 0) (fun x i => pE_fwd s t 0 n x i) (by simpa [cO] using hO) j h hp).2.1
  have hC0 : 0 ≤ nB s t (pE s t 0 n) f (i + 1) := by omega
  rw [hcnt, hfew] at hRest
  have H10 := hide (v.ten.sub f hO)
  generalize hR : T ++ dB s t m (pE s t 0 n) (dE s t m n) l f (i + 1) = R at *
  generalize hC : nB s t (pE s t 0 n) f (i + 1) = C at *
  have hC5 : C ≤ m := by omega
  have hdl := dgt_len (m + 1) (C - 0)
  have hnm := nms_lows s 27
  have hH := low_nFit v.gram (l := l) (by omega) (f + 1)
  have hHb := low_bd (s := s) hnm (f + 1)
  have hLW := low_all v.gram.small hnm (B := B) k
  have hblt := hk.lt
  have hBb := hk.hB
  rw [hK] at hRest ⊢
  obtain ⟨s1, s2, s3, s4⟩ := fac_one w 123 (.pointer (some ⟨p, 0, none⟩)) 67
  have HK := hide (hk.below s1)
  have HS1 := hide s1
  have HEA := hide (hEA.below s1 (by omega))
  have hlow : low s (lowsF s 27) (f + 1) ≤ (l : Nat) := by exact hH.2 hx
  obtain ⟨nm, hnmE⟩ : ∃ nm, nm = lowsF s 27 := ⟨_, rfl⟩
  rw [← hnmE] at hlow hHb hLW hnm
  generalize hlv : low s nm (f + 1) = H at *
  have HLV := hide hlv
  have HNM := hide hnmE
  have HLW := hide hLW
  have HRE := hide hRest
  have HRC := hide hrc
  clear hk s1 hcnt hK hH hEA hlv hnmE hLW hRest hrc hne hmx hp hC hR hO hOi hbi hfew
  go_enter Tryz.func37, Tryz.ntmps37
  go_wp2_with fail
  generalize w.alloc (.cells #[.int .u8 123, .pointer (some ⟨p, 0, none⟩)] 67) = w0 at *
  have c29 := (unhide HK).tak
  have f29 := (unhide HK).tkf
  refine (name_any _ _).mono ?_
  rw [show cN 123 = false by decide]
  rintro e w' ⟨rfl, hw⟩
  replace hw := hw.symm; subst hw
  have HK1 := hide ((unhide HK).takeI (i + 1) (x := (i : Int) + 1) (by omega))
  have hb1 := But.set b 29 w0 (.int .i64 ((i : Int) + 1))
  have HB1 := hide ((But.of (b := b) (unhide HS1)).trans hb1)
  have e0 := (hb1.cell (g := w.heap.size) (o := 0) (by omega) (by omega)).trans s2
  have e1 := (hb1.cell (g := w.heap.size) (o := 1) (by omega) (by omega)).trans s3
  have hz1 := hb1.size
  have HEA1 := hide ((unhide HEA).but hb1 hBb (by omega))
  have c28 := (unhide HK1).chs
  clear hb1
  go_wp2_with fail
  generalize w0.setCell ⟨b, 29, none⟩ (.int .i64 ((i : Int) + 1)) = w1 at *
  clear c29 f29 s2 s3
  refine (relements_any t _ i _ ht rfl hit).mono ?_
  rw [unhide HRC]
  rintro e w2 ⟨ao, cap, rfl, hb2⟩
  have hz2 := hb2.size
  have d0 := (hb2.cell (p := ⟨w.heap.size, 0, none⟩) (by show w.heap.size < _; omega)).trans e0
  have d1 := (hb2.cell (p := ⟨w.heap.size, 1, none⟩) (by show w.heap.size < _; omega)).trans e1
  have HK2 := hide ((unhide HK1).below hb2)
  have HB2 := hide ((unhide HB1).trans (But.of hb2))
  have HEA2 := hide ((unhide HEA1).below hb2 (by omega))
  have HRG : Hid (w2.rangeAt b 1 (nms nm)) := hide (by rw [unhide HNM]; exact (unhide HK2).nam)
  have hw2 : B ≤ w2.heap.size := by omega
  clear hb2 e0 e1 c28
  go_wp2_with fail
  have hu := Tryz.underlying57
  have hin : (Tryz.prog.info? 57).map (·.size) = some (nms nm).length := by rw [nms_len]; exact Tryz.infoArr
  have hnl := nms_len nm
  have hno := nms_one nm
  go_region_held (fun w' => Below w2.heap.size w2 w' ∧ w'.cell? ⟨w.heap.size, 1, none⟩ = some (.pointer (some ⟨p, 0, none⟩)) ∧ w'.rangeAt b 1 (nms nm)) (first | exact keepO ((Below.refl _ _).drew) d1 (unhide HRG) | exact keepO (((Below.refl w2.heap.size w2).drew).trans hb3) d1 (unhide HRG)) (first | (go_at_call 70; refine (unhide HLW p (f + 1) _ ?_ ?_).mono ?_; exact hw2; exact (unhide HEA2).below ((Below.refl _ _).drew) hw2; rw [unhide HLV]; rintro e w3 ⟨rfl, hb3⟩))
  have hb3' : Below w2.heap.size w2 w3 := ((Below.refl _ _).drew).trans hb3
  have g0 := (hb3'.cell (p := ⟨w.heap.size, 0, none⟩) (by show w.heap.size < _; omega)).trans d0
  have g1 := (hb3'.cell (p := ⟨w.heap.size, 1, none⟩) (by show w.heap.size < _; omega)).trans d1
  have HK3 := hide ((unhide HK2).below hb3')
  have c27 := (unhide HK3).mst
  have HB3 := hide ((unhide HB2).trans (But.of hb3'))
  have HEA3 := hide ((unhide HEA2).below hb3' hw2)
  have hz3 := hb3'.size
  clear hu hin hnl hno hb3 hb3' d0 d1 HK1 HB1 HEA1 HRG HK2 HB2 HEA2
  go_wp2_with fail
  refine (took_any (unhide HK3) (by omega) _ _ (m + 1) (C - 0) (by omega) (by omega) (by omega) (by omega)).mono ?_
  rintro e w4 ⟨rfl, hk4, hb4⟩
  replace hk4 := hide hk4
  replace hb4 := hide hb4
  go_wp2
  have q0 := (unhide hb4).cell (g := w.heap.size) (o := 0) (by omega) (by omega) |>.trans g0
  have q1 := (unhide hb4).cell (g := w.heap.size) (o := 1) (by omega) (by omega) |>.trans g1
  have hz4 := (unhide hb4).size
  have HB4 := hide ((unhide HB3).trans (unhide hb4))
  have HEA4 := hide ((unhide HEA3).but (unhide hb4) hBb (by omega))
  generalize hDD : T ++ dgt (m + 1) (C - 0) = DD at *
  have hDDl : DD.length ≤ i + 1 := by rw [← hDD]; simp only [List.length_append]; omega
  clear hDD hdl g0 g1 c27 HB3 HEA3 HK3 hb4
  go_loopw [10] (fun iv wr => ∃ (k1 q : Nat) (D1 : List Int), iv = .int .i64 k1 ∧ k1 ≤ C ∧ q + 1 ≤ t.size ∧ Hid (Rm wr b s t m B g (if k1 = 0 then q else q + 1) D1) ∧ Hid (But b w4 wr) ∧ Hid (Rest t (pE s t 0 n (f + 1)) (dE s t m n l (f + 1)) (cC 123) j h k1 C q D1 R) ∧ D1.length ≤ q) (fun iv _ => 30 - (intOf iv).toNat)
  case atStart =>
    refine ⟨0, i + 1, DD, by go_num, Nat.zero_le _, ?_, by rw [if_pos rfl]; exact hk4, hide (But.refl _ _), HRE, hDDl⟩
    have := (pE_ends (unhide HRE)); omega
  case round =>
    obtain ⟨k1, q, D1, rfl, hkc, hqt, hM, hB, hRe, hD1⟩ := hrel
    have r1 := (unhide hB).cell (g := w.heap.size) (o := 1) (by omega) (by omega) |>.trans q1
    have hzr := (unhide hB).size
    by_cases hlt : k1 < C
    · obtain ⟨a, k', hq1, hk', hRe'⟩ := (unhide hRe).more hlt
      have hfw := pE_fwd s t 0 n _ _ a k' hq1
      have hae := pE_ends hRe'
      have HQ := hide hq1
      have HRe := hide hRe'
      have HEr := hide ((unhide HEA4).but (unhide hB) hBb (by omega))
      have hD1' : D1.length ≤ (if k1 = 0 then q else q + 1) := by split <;> omega
      clear hq1 hRe' hRe
      go_wp2_with fail
      refine (hE _ p (f + 1) k l _ a k' D1 _ (unhide hM) (unhide HEr) rfl (by omega) (unhide H10) hl9 (unhide HQ) (by omega) hD1').mono ?_
      rintro e w5 ⟨rfl, hk5, hb5, hD5⟩
      have c29 := hk5.tak
      have f29 := hk5.tkf
      have HT5 := hide (hk5.takeI (a + 1) (x := (a : Int) + 1) (by omega))
      have HB5 := hide (((unhide hB).trans hb5).trans (But.set b 29 w5 (.int .i64 ((a : Int) + 1))))
      clear hk5 hb5 hM
      go_wp2
      go_roundw
      case rel => exact ⟨k1 + 1, a, _, by go_num, by omega, by omega, by rw [if_neg (by omega)]; exact HT5, HB5, HRe, by omega⟩
      case measure => simp [intOf]; omega
    · have hkC : k1 = C := by omega
      subst hkC
      have hend : q + 1 = j ∧ D1 = R := by
        rcases unhide hRe with ⟨_, a, b⟩ | ⟨a, _⟩
        · exact ⟨a, b⟩
        · omega
      obtain ⟨he1, he2⟩ := hend
      subst he1 he2
      clear hRe
      by_cases hC00 : k1 = 0
      · have hC00' : ((k1 : Int) == 0) = true := by simp [hC00]
        rw [if_pos hC00] at hM
        have c29 := (unhide hM).tak
        have f29 := (unhide hM).tkf
        have HT5 := hide ((unhide hM).takeI (q + 1) (x := (q : Int) + 1) (by omega))
        clear hM
        go_wp2
        go_end0
        exact ⟨rfl, unhide HT5, ((unhide HB4).trans (unhide hB)).trans (But.set _ _ _ _), by omega⟩
      · have hC00' : ((k1 : Int) == 0) = false := by simp only [beq_eq_false_iff_ne]; omega
        rw [if_neg hC00] at hM
        go_wp2
        go_end0
        exact ⟨rfl, unhide hM, (unhide HB4).trans (unhide hB), by omega⟩

set_option maxHeartbeats 1000000 in
set_option maxRecDepth 1000000 in
theorem rrb_lstn (v : Eq2 s t m) {n : Nat} (_hE : SaidRR b s t m B g n) (lq : Int) (p k f l i j h : Nat) (T : List Int) (w : World) (hk : Rm w b s t m B g i T) (hEA : EA w s k (fun j => j < B) p (f + 1)) (hl : lq = l) (hl9 : l ≤ 9) (hK : bt s f = 123) (hx : expFit s (nFit s l) (f + 1) = false)
    (_hfl : f < s.size) (hbi : bt t i = 123) (hp : pB s t 0 (pE s t 0 n) f (i + 1) = some (j, h)) (hhl : h ≤ l) (hT : T.length ≤ i) :
    Calls Tryz.prog 37 #[.pointer (some ⟨b, 0, none⟩), .agg #[.int .u8 (bt s f), .pointer (some ⟨p, 0, none⟩)], .int .i64 lq] w fun e w' => OutRR b s t m B g w j (T ++ dB s t m (pE s t 0 n) (dE s t m n) l f (i + 1)) e w' := by
  subst hl
  have ht := v.ht
  have hm1 := v.hm.1
  have hm5 := v.hm.2
  have hO : cO (bt s f) = true := by rw [hK]; decide
  have hOi : cO (bt t i) = true := by rw [hbi]; decide
  have hit : i < t.size := bt_lt (by omega)
  have hcnt : cnt s m l f = 1 := by unfold cnt; rw [hK]; rw [if_neg (by simp [hx])]
  have hfew : few (bt s f) = 0 := by rw [hK]; decide
  have hne := els_bracket (i := i) hO hp
  have hmx := v.gd i (Nat.zero_le _) hit hOi
  have hrc := rn_count hO hOi hp
  have hRest := Rest.start (s := s) (t := t) (D := T) (l := l) (dr := dE s t m n) (fun i j h e => pE_skip s t 0 n (f + 1) i j h e) hO hp m
  have hjt : j ≤ t.size := (pB_fwd (most := 0) (fun x i => pE_fwd s t 0 n x i) (by simpa [cO] using hO) j h hp).2.1
  have hC0 : nB s t (pE s t 0 n) f (i + 1) = 0 := by exact nB_none hp hhl hx
  rw [hcnt, hfew] at hRest
  have H10 := hide (v.ten.sub f hO)
  generalize hR : T ++ dB s t m (pE s t 0 n) (dE s t m n) l f (i + 1) = R at *
  generalize hC : nB s t (pE s t 0 n) f (i + 1) = C at *
  have hC5 : C ≤ m := by omega
  have hdl := dgt_len (1) (C - 0)
  have hnm := nms_lows s 27
  have hH := low_nFit v.gram (l := l) (by omega) (f + 1)
  have hHb := low_bd (s := s) hnm (f + 1)
  have hLW := low_all v.gram.small hnm (B := B) k
  have hblt := hk.lt
  have hBb := hk.hB
  rw [hK] at hRest ⊢
  obtain ⟨s1, s2, s3, s4⟩ := fac_one w 123 (.pointer (some ⟨p, 0, none⟩)) 67
  have HK := hide (hk.below s1)
  have HS1 := hide s1
  have HEA := hide (hEA.below s1 (by omega))
  have hlow : (l : Int) < low s (lowsF s 27) (f + 1) := by exact Int.not_le.1 (fun e => by rw [hH.1 e] at hx; cases hx)
  obtain ⟨nm, hnmE⟩ : ∃ nm, nm = lowsF s 27 := ⟨_, rfl⟩
  rw [← hnmE] at hlow hHb hLW hnm
  generalize hlv : low s nm (f + 1) = H at *
  have HLV := hide hlv
  have HNM := hide hnmE
  have HLW := hide hLW
  have HRE := hide hRest
  have HRC := hide hrc
  clear hk s1 hcnt hK hH hEA hlv hnmE hLW hRest hrc hne hmx hp hC hR hO hOi hbi hfew
  go_enter Tryz.func37, Tryz.ntmps37
  go_wp2_with fail
  generalize w.alloc (.cells #[.int .u8 123, .pointer (some ⟨p, 0, none⟩)] 67) = w0 at *
  have c29 := (unhide HK).tak
  have f29 := (unhide HK).tkf
  refine (name_any _ _).mono ?_
  rw [show cN 123 = false by decide]
  rintro e w' ⟨rfl, hw⟩
  replace hw := hw.symm; subst hw
  have HK1 := hide ((unhide HK).takeI (i + 1) (x := (i : Int) + 1) (by omega))
  have hb1 := But.set b 29 w0 (.int .i64 ((i : Int) + 1))
  have HB1 := hide ((But.of (b := b) (unhide HS1)).trans hb1)
  have e0 := (hb1.cell (g := w.heap.size) (o := 0) (by omega) (by omega)).trans s2
  have e1 := (hb1.cell (g := w.heap.size) (o := 1) (by omega) (by omega)).trans s3
  have hz1 := hb1.size
  have HEA1 := hide ((unhide HEA).but hb1 hBb (by omega))
  have c28 := (unhide HK1).chs
  clear hb1
  go_wp2_with fail
  generalize w0.setCell ⟨b, 29, none⟩ (.int .i64 ((i : Int) + 1)) = w1 at *
  clear c29 f29 s2 s3
  refine (relements_any t _ i _ ht rfl hit).mono ?_
  rw [unhide HRC]
  rintro e w2 ⟨ao, cap, rfl, hb2⟩
  have hz2 := hb2.size
  have d0 := (hb2.cell (p := ⟨w.heap.size, 0, none⟩) (by show w.heap.size < _; omega)).trans e0
  have d1 := (hb2.cell (p := ⟨w.heap.size, 1, none⟩) (by show w.heap.size < _; omega)).trans e1
  have HK2 := hide ((unhide HK1).below hb2)
  have HB2 := hide ((unhide HB1).trans (But.of hb2))
  have HEA2 := hide ((unhide HEA1).below hb2 (by omega))
  have HRG : Hid (w2.rangeAt b 1 (nms nm)) := hide (by rw [unhide HNM]; exact (unhide HK2).nam)
  have hw2 : B ≤ w2.heap.size := by omega
  clear hb2 e0 e1 c28
  go_wp2_with fail
  have hu := Tryz.underlying57
  have hin : (Tryz.prog.info? 57).map (·.size) = some (nms nm).length := by rw [nms_len]; exact Tryz.infoArr
  have hnl := nms_len nm
  have hno := nms_one nm
  go_region_held (fun w' => Below w2.heap.size w2 w' ∧ w'.cell? ⟨w.heap.size, 1, none⟩ = some (.pointer (some ⟨p, 0, none⟩)) ∧ w'.rangeAt b 1 (nms nm)) (first | exact keepO ((Below.refl _ _).drew) d1 (unhide HRG) | exact keepO (((Below.refl w2.heap.size w2).drew).trans hb3) d1 (unhide HRG)) (first | (go_at_call 70; refine (unhide HLW p (f + 1) _ ?_ ?_).mono ?_; exact hw2; exact (unhide HEA2).below ((Below.refl _ _).drew) hw2; rw [unhide HLV]; rintro e w3 ⟨rfl, hb3⟩))
  have hb3' : Below w2.heap.size w2 w3 := ((Below.refl _ _).drew).trans hb3
  have g0 := (hb3'.cell (p := ⟨w.heap.size, 0, none⟩) (by show w.heap.size < _; omega)).trans d0
  have g1 := (hb3'.cell (p := ⟨w.heap.size, 1, none⟩) (by show w.heap.size < _; omega)).trans d1
  have HK3 := hide ((unhide HK2).below hb3')
  have c27 := (unhide HK3).mst
  have HB3 := hide ((unhide HB2).trans (But.of hb3'))
  have HEA3 := hide ((unhide HEA2).below hb3' hw2)
  have hz3 := hb3'.size
  clear hu hin hnl hno hb3 hb3' d0 d1 HK1 HB1 HEA1 HRG HK2 HB2 HEA2
  have hdn : dgt 1 (C - 0) = [] := by unfold dgt; rw [if_neg (by omega)]
  have hk4 : Hid (Rm w3 b s t m B g (i + 1) (T ++ dgt 1 (C - 0))) := hide (by rw [hdn, List.append_nil]; exact unhide HK3)
  have hb4 : Hid (But b w3 w3) := hide (But.refl _ _)
  clear hdn
  go_wp2
  have q0 := (unhide hb4).cell (g := w.heap.size) (o := 0) (by omega) (by omega) |>.trans g0
  have q1 := (unhide hb4).cell (g := w.heap.size) (o := 1) (by omega) (by omega) |>.trans g1
  have hz4 := (unhide hb4).size
  have HB4 := hide ((unhide HB3).trans (unhide hb4))
  have HEA4 := hide ((unhide HEA3).but (unhide hb4) hBb (by omega))
  generalize hDD : T ++ dgt (1) (C - 0) = DD at *
  have hDDl : DD.length ≤ i + 1 := by rw [← hDD]; simp only [List.length_append]; omega
  clear hDD hdl g0 g1 c27 HB3 HEA3 HK3 hb4
  go_loopw [10] (fun iv wr => ∃ (k1 q : Nat) (D1 : List Int), iv = .int .i64 k1 ∧ k1 ≤ C ∧ q + 1 ≤ t.size ∧ Hid (Rm wr b s t m B g (if k1 = 0 then q else q + 1) D1) ∧ Hid (But b w3 wr) ∧ Hid (Rest t (pE s t 0 n (f + 1)) (dE s t m n l (f + 1)) (cC 123) j h k1 C q D1 R) ∧ D1.length ≤ q) (fun iv _ => 30 - (intOf iv).toNat)
  case atStart =>
    refine ⟨0, i + 1, DD, by go_num, Nat.zero_le _, ?_, by rw [if_pos rfl]; exact hk4, hide (But.refl _ _), HRE, hDDl⟩
    have := (pE_ends (unhide HRE)); omega
  case round =>
    obtain ⟨k1, q, D1, rfl, hkc, hqt, hM, hB, hRe, hD1⟩ := hrel
    have r1 := (unhide hB).cell (g := w.heap.size) (o := 1) (by omega) (by omega) |>.trans q1
    have hzr := (unhide hB).size
    by_cases hlt : k1 < C
    · omega
    · have hkC : k1 = C := by omega
      subst hkC
      have hend : q + 1 = j ∧ D1 = R := by
        rcases unhide hRe with ⟨_, a, b⟩ | ⟨a, _⟩
        · exact ⟨a, b⟩
        · omega
      obtain ⟨he1, he2⟩ := hend
      subst he1 he2
      clear hRe
      have hC00 : k1 = 0 := by omega
      have hC00' : ((k1 : Int) == 0) = true := by simp [hC00]
      rw [if_pos hC00] at hM
      have c29 := (unhide hM).tak
      have f29 := (unhide hM).tkf
      have HT5 := hide ((unhide hM).takeI (q + 1) (x := (q : Int) + 1) (by omega))
      clear hM
      go_wp2
      go_end0
      exact ⟨rfl, unhide HT5, ((unhide HB4).trans (unhide hB)).trans (But.set _ _ _ _), by omega⟩

set_option maxHeartbeats 1000000 in
set_option maxRecDepth 1000000 in
theorem rrb_ne (v : Eq2 s t m) {n : Nat} (hE : SaidRR b s t m B g n) (lq : Int) (p k f l i j h : Nat) (T : List Int) (w : World) (hk : Rm w b s t m B g i T) (hEA : EA w s k (fun j => j < B) p (f + 1)) (hl : lq = l) (hl9 : l ≤ 9) (hK : bt s f = 60) (hx : expFit s (nFit s l) (f + 1) = true)
    (hfl : f < s.size) (hbi : bt t i = 60) (hp : pB s t 0 (pE s t 0 n) f (i + 1) = some (j, h)) (hhl : h ≤ l) (hT : T.length ≤ i) :
    Calls Tryz.prog 37 #[.pointer (some ⟨b, 0, none⟩), .agg #[.int .u8 (bt s f), .pointer (some ⟨p, 0, none⟩)], .int .i64 lq] w fun e w' => OutRR b s t m B g w j (T ++ dB s t m (pE s t 0 n) (dE s t m n) l f (i + 1)) e w' := by
  subst hl
  have ht := v.ht
  have hm1 := v.hm.1
  have hm5 := v.hm.2
  have hO : cO (bt s f) = true := by rw [hK]; decide
  have hOi : cO (bt t i) = true := by rw [hbi]; decide
  have hit : i < t.size := bt_lt (by omega)
  have hcnt : cnt s m l f = m := by unfold cnt; rw [hK]; rw [if_pos hx]; simp [grt, few]; omega
  have hfew : few (bt s f) = 1 := by rw [hK]; decide
  have hne := els_bracket (i := i) hO hp
  have hmx := v.gd i (Nat.zero_le _) hit hOi
  have hrc := rn_count hO hOi hp
  have hRest := Rest.start (s := s) (t := t) (D := T) (l := l) (dr := dE s t m n) (fun i j h e => pE_skip s t 0 n (f + 1) i j h e) hO hp m
  have hjt : j ≤ t.size := (pB_fwd (most := 0) (fun x i => pE_fwd s t 0 n x i) (by simpa [cO] using hO) j h hp).2.1
  have hC0 : 1 ≤ nB s t (pE s t 0 n) f (i + 1) := by exact nB_one (by rw [hK]; decide) hO hp
  rw [hcnt, hfew] at hRest
  have H10 := hide (v.ten.sub f hO)
  generalize hR : T ++ dB s t m (pE s t 0 n) (dE s t m n) l f (i + 1) = R at *
  generalize hC : nB s t (pE s t 0 n) f (i + 1) = C at *
  have hC5 : C ≤ m := by omega
  have hdl := dgt_len (m) (C - 1)
  have hnm := nms_lows s 27
  have hH := low_nFit v.gram (l := l) (by omega) (f + 1)
  have hHb := low_bd (s := s) hnm (f + 1)
  have hLW := low_all v.gram.small hnm (B := B) k
  have hblt := hk.lt
  have hBb := hk.hB
  rw [hK] at hRest ⊢
  obtain ⟨s1, s2, s3, s4⟩ := fac_one w 60 (.pointer (some ⟨p, 0, none⟩)) 67
  have HK := hide (hk.below s1)
  have HS1 := hide s1
  have HEA := hide (hEA.below s1 (by omega))
  have hlow : low s (lowsF s 27) (f + 1) ≤ (l : Nat) := by exact hH.2 hx
  obtain ⟨nm, hnmE⟩ : ∃ nm, nm = lowsF s 27 := ⟨_, rfl⟩
  rw [← hnmE] at hlow hHb hLW hnm
  generalize hlv : low s nm (f + 1) = H at *
  have HLV := hide hlv
  have HNM := hide hnmE
  have HLW := hide hLW
  have HRE := hide hRest
  have HRC := hide hrc
  clear hk s1 hcnt hK hH hEA hlv hnmE hLW hRest hrc hne hmx hp hC hR hO hOi hbi hfew
  go_enter Tryz.func37, Tryz.ntmps37
  go_wp2_with fail
  generalize w.alloc (.cells #[.int .u8 60, .pointer (some ⟨p, 0, none⟩)] 67) = w0 at *
  have c29 := (unhide HK).tak
  have f29 := (unhide HK).tkf
  refine (name_any _ _).mono ?_
  rw [show cN 60 = false by decide]
  rintro e w' ⟨rfl, hw⟩
  replace hw := hw.symm; subst hw
  have HK1 := hide ((unhide HK).takeI (i + 1) (x := (i : Int) + 1) (by omega))
  have hb1 := But.set b 29 w0 (.int .i64 ((i : Int) + 1))
  have HB1 := hide ((But.of (b := b) (unhide HS1)).trans hb1)
  have e0 := (hb1.cell (g := w.heap.size) (o := 0) (by omega) (by omega)).trans s2
  have e1 := (hb1.cell (g := w.heap.size) (o := 1) (by omega) (by omega)).trans s3
  have hz1 := hb1.size
  have HEA1 := hide ((unhide HEA).but hb1 hBb (by omega))
  have c28 := (unhide HK1).chs
  clear hb1
  go_wp2_with fail
  generalize w0.setCell ⟨b, 29, none⟩ (.int .i64 ((i : Int) + 1)) = w1 at *
  clear c29 f29 s2 s3
  refine (relements_any t _ i _ ht rfl hit).mono ?_
  rw [unhide HRC]
  rintro e w2 ⟨ao, cap, rfl, hb2⟩
  have hz2 := hb2.size
  have d0 := (hb2.cell (p := ⟨w.heap.size, 0, none⟩) (by show w.heap.size < _; omega)).trans e0
  have d1 := (hb2.cell (p := ⟨w.heap.size, 1, none⟩) (by show w.heap.size < _; omega)).trans e1
  have HK2 := hide ((unhide HK1).below hb2)
  have HB2 := hide ((unhide HB1).trans (But.of hb2))
  have HEA2 := hide ((unhide HEA1).below hb2 (by omega))
  have HRG : Hid (w2.rangeAt b 1 (nms nm)) := hide (by rw [unhide HNM]; exact (unhide HK2).nam)
  have hw2 : B ≤ w2.heap.size := by omega
  clear hb2 e0 e1 c28
  go_wp2_with fail
  have hu := Tryz.underlying57
  have hin : (Tryz.prog.info? 57).map (·.size) = some (nms nm).length := by rw [nms_len]; exact Tryz.infoArr
  have hnl := nms_len nm
  have hno := nms_one nm
  go_region_held (fun w' => Below w2.heap.size w2 w' ∧ w'.cell? ⟨w.heap.size, 1, none⟩ = some (.pointer (some ⟨p, 0, none⟩)) ∧ w'.rangeAt b 1 (nms nm)) (first | exact keepO ((Below.refl _ _).drew) d1 (unhide HRG) | exact keepO (((Below.refl w2.heap.size w2).drew).trans hb3) d1 (unhide HRG)) (first | (go_at_call 70; refine (unhide HLW p (f + 1) _ ?_ ?_).mono ?_; exact hw2; exact (unhide HEA2).below ((Below.refl _ _).drew) hw2; rw [unhide HLV]; rintro e w3 ⟨rfl, hb3⟩))
  have hb3' : Below w2.heap.size w2 w3 := ((Below.refl _ _).drew).trans hb3
  have g0 := (hb3'.cell (p := ⟨w.heap.size, 0, none⟩) (by show w.heap.size < _; omega)).trans d0
  have g1 := (hb3'.cell (p := ⟨w.heap.size, 1, none⟩) (by show w.heap.size < _; omega)).trans d1
  have HK3 := hide ((unhide HK2).below hb3')
  have c27 := (unhide HK3).mst
  have HB3 := hide ((unhide HB2).trans (But.of hb3'))
  have HEA3 := hide ((unhide HEA2).below hb3' hw2)
  have hz3 := hb3'.size
  clear hu hin hnl hno hb3 hb3' d0 d1 HK1 HB1 HEA1 HRG HK2 HB2 HEA2
  go_wp2_with fail
  refine (took_any (unhide HK3) (by omega) _ _ (m) (C - 1) (by omega) (by omega) (by omega) (by omega)).mono ?_
  rintro e w4 ⟨rfl, hk4, hb4⟩
  replace hk4 := hide hk4
  replace hb4 := hide hb4
  go_wp2
  have q0 := (unhide hb4).cell (g := w.heap.size) (o := 0) (by omega) (by omega) |>.trans g0
  have q1 := (unhide hb4).cell (g := w.heap.size) (o := 1) (by omega) (by omega) |>.trans g1
  have hz4 := (unhide hb4).size
  have HB4 := hide ((unhide HB3).trans (unhide hb4))
  have HEA4 := hide ((unhide HEA3).but (unhide hb4) hBb (by omega))
  generalize hDD : T ++ dgt (m) (C - 1) = DD at *
  have hDDl : DD.length ≤ i + 1 := by rw [← hDD]; simp only [List.length_append]; omega
  clear hDD hdl g0 g1 c27 HB3 HEA3 HK3 hb4
  go_loopw [10] (fun iv wr => ∃ (k1 q : Nat) (D1 : List Int), iv = .int .i64 k1 ∧ k1 ≤ C ∧ q + 1 ≤ t.size ∧ Hid (Rm wr b s t m B g (if k1 = 0 then q else q + 1) D1) ∧ Hid (But b w4 wr) ∧ Hid (Rest t (pE s t 0 n (f + 1)) (dE s t m n l (f + 1)) (cC 60) j h k1 C q D1 R) ∧ D1.length ≤ q) (fun iv _ => 30 - (intOf iv).toNat)
  case atStart =>
    refine ⟨0, i + 1, DD, by go_num, Nat.zero_le _, ?_, by rw [if_pos rfl]; exact hk4, hide (But.refl _ _), HRE, hDDl⟩
    have := (pE_ends (unhide HRE)); omega
  case round =>
    obtain ⟨k1, q, D1, rfl, hkc, hqt, hM, hB, hRe, hD1⟩ := hrel
    have r1 := (unhide hB).cell (g := w.heap.size) (o := 1) (by omega) (by omega) |>.trans q1
    have hzr := (unhide hB).size
    by_cases hlt : k1 < C
    · obtain ⟨a, k', hq1, hk', hRe'⟩ := (unhide hRe).more hlt
      have hfw := pE_fwd s t 0 n _ _ a k' hq1
      have hae := pE_ends hRe'
      have HQ := hide hq1
      have HRe := hide hRe'
      have HEr := hide ((unhide HEA4).but (unhide hB) hBb (by omega))
      have hD1' : D1.length ≤ (if k1 = 0 then q else q + 1) := by split <;> omega
      clear hq1 hRe' hRe
      go_wp2_with fail
      refine (hE _ p (f + 1) k l _ a k' D1 _ (unhide hM) (unhide HEr) rfl (by omega) (unhide H10) hl9 (unhide HQ) (by omega) hD1').mono ?_
      rintro e w5 ⟨rfl, hk5, hb5, hD5⟩
      have c29 := hk5.tak
      have f29 := hk5.tkf
      have HT5 := hide (hk5.takeI (a + 1) (x := (a : Int) + 1) (by omega))
      have HB5 := hide (((unhide hB).trans hb5).trans (But.set b 29 w5 (.int .i64 ((a : Int) + 1))))
      clear hk5 hb5 hM
      go_wp2
      go_roundw
      case rel => exact ⟨k1 + 1, a, _, by go_num, by omega, by omega, by rw [if_neg (by omega)]; exact HT5, HB5, HRe, by omega⟩
      case measure => simp [intOf]; omega
    · have hkC : k1 = C := by omega
      subst hkC
      have hend : q + 1 = j ∧ D1 = R := by
        rcases unhide hRe with ⟨_, a, b⟩ | ⟨a, _⟩
        · exact ⟨a, b⟩
        · omega
      obtain ⟨he1, he2⟩ := hend
      subst he1 he2
      clear hRe
      have hC00 : ¬ k1 = 0 := by omega
      have hC00' : ((k1 : Int) == 0) = false := by simp only [beq_eq_false_iff_ne]; omega
      rw [if_neg hC00] at hM
      go_wp2
      go_end0
      exact ⟨rfl, unhide hM, (unhide HB4).trans (unhide hB), by omega⟩
end
end Go.Proofs.YtnfaiaoipeholaaGreatDoor

namespace Go.Proofs.YtnfaiaoipeholaaGreatDoor
open Go.RowKit
section
variable {b : Nat} {s t : ByteArray} {m B g : Nat}
theorem fits_eq' (gr : Gram s) {l : Nat} (hl : l ≤ 9) (x : Nat) : fits s (lowsF s 27) x (l : Nat) = fitL s l x := by
  unfold fits fitK fitL
  congr 1; funext k
  rw [Bool.eq_iff_iff, decide_eq_true_eq]
  exact alt_nFit gr (by omega) _

/-- any factor -/
theorem rrfac_any (v : Eq2 s t m) {n : Nat} (hE : SaidRR b s t m B g n) (lq : Int) (sv : Value) (f l i j h : Nat) (T : List Int) (w : World) (hk : Rm w b s t m B g i T) (hS : SubOk w s B f sv) (hl : lq = l) (hl9 : l ≤ 9) (hf : isF s f = true)
    (hp : pF s t 0 (pE s t 0 n) f i = some (j, h)) (hhl : h ≤ l) (hT : T.length ≤ i) :
    Calls Tryz.prog 37 #[.pointer (some ⟨b, 0, none⟩), .agg #[.int .u8 (bt s f), sv], .int .i64 lq] w fun e w' => OutRR b s t m B g w j (T ++ dF s t m (pE s t 0 n) (dE s t m n) l f i) e w' := by
  have ht := v.ht
  have hfl := isF_lt hf
  have hfit := pF_fit (fun x i j h l => pE_fit n x i j h l) hp hhl
  have hnz : bt s f ≠ 0 := by intro e; rw [isF, e] at hf; exact absurd hf (by decide)
  have hp0 := hp
  unfold pF at hp
  split at hp
  · cases hp
  rename_i hbt
  have hbt' : bt t i = bt s f := by omega
  have hit : i < t.size := bt_lt (by omega)
  clear hbt
  rcases hS with ⟨h3, rfl⟩ | ⟨h3, p, k, rfl, hEA⟩
  · cases h2 : cN (bt s f)
    · have hL : cL (bt s f) = true := by simpa [isF, h2, h3] using hf
      rw [if_pos hL] at hp
      simp only [Option.some.injEq, Prod.mk.injEq] at hp
      have hR : dF s t m (pE s t 0 n) (dE s t m n) l f i = [] := by unfold dF; rw [if_neg (by simp [h2]), if_neg (by simp [h3])]
      rw [hR, List.append_nil, ← hp.1]
      exact rrfac_letter lq f i T w hk h2 (by omega) hT
    · have hL : cL (bt s f) = false := by
        have hv : 65 ≤ bt s f ∧ bt s f ≤ 90 := by simpa [cN] using h2
        simp [cL]; omega
      rw [if_neg (by simp [hL]), if_pos h2] at hp
      unfold pN at hp
      split at hp
      · cases hp
      cases hq : pE s t 0 n (rl s (bt s f) + 2).toNat (i + 1 + 1) with
      | none => rw [hq] at hp; cases hp
      | some q =>
        obtain ⟨a, k⟩ := q
        rw [hq] at hp
        simp only at hp
        split at hp
        case isFalse => cases hp
        rename_i h41
        simp only [Option.some.injEq, Prod.mk.injEq] at hp
        obtain ⟨hp1, hp2⟩ := hp
        subst hp1
        have hR : dF s t m (pE s t 0 n) (dE s t m n) l f i = dE s t m n (l - 1) (rl s (bt s f) + 2).toNat (i + 2) := by unfold dF; rw [if_pos h2]
        rw [hR]
        exact rrfac_name v hE lq f l i a k T w hk hl hl9 h2 hq (bt_lt (by omega)) (by omega) hT
  · have h2 : cN (bt s f) = false := by have := cO_vals h3; simp [cN]; omega
    have hL : cL (bt s f) = false := by have := cO_vals h3; simp [cL]; omega
    rw [if_neg (by simp [hL]), if_neg (by simp [h2])] at hp
    have hR : dF s t m (pE s t 0 n) (dE s t m n) l f i = dB s t m (pE s t 0 n) (dE s t m n) l f (i + 1) := by unfold dF; rw [if_neg (by simp [h2]), if_pos h3]
    rw [hR]
    unfold facFit at hfit
    rw [if_neg (by simp [h2])] at hfit
    rcases cO_vals h3 with hK | hK | hK | hK
    · rw [if_pos (.inl hK)] at hfit
      exact rrb_grp v hE lq p k f l i j h T w hk hEA hl hl9 hK hfit hfl (by rw [hbt', hK]) hp hhl hT
    · cases hx : expFit s (nFit s l) (f + 1)
      · exact rrb_optn v hE lq p k f l i j h T w hk hEA hl hl9 hK hx hfl (by rw [hbt', hK]) hp hhl hT
      · exact rrb_opt v hE lq p k f l i j h T w hk hEA hl hl9 hK hx hfl (by rw [hbt', hK]) hp hhl hT
    · cases hx : expFit s (nFit s l) (f + 1)
      · exact rrb_lstn v hE lq p k f l i j h T w hk hEA hl hl9 hK hx hfl (by rw [hbt', hK]) hp hhl hT
      · exact rrb_lst v hE lq p k f l i j h T w hk hEA hl hl9 hK hx hfl (by rw [hbt', hK]) hp hhl hT
    · rw [if_pos (.inr hK)] at hfit
      exact rrb_ne v hE lq p k f l i j h T w hk hEA hl hl9 hK hfit hfl (by rw [hbt', hK]) hp hhl hT

theorem rfit_at {p : Nat → Bool} {k : Nat} (hp : p k = true) : ∀ len, k < len → ((List.range len).filter p)[((List.range k).filter p).length]? = some k
  | 0, h => by omega
  | len + 1, h => by
    rw [List.range_succ, List.filter_append]
    by_cases e : k = len
    · subst e; simp [List.filter, hp]
    · have ih := rfit_at hp len (by omega)
      rw [List.getElem?_append_left (List.getElem?_eq_some_iff.1 ih).1]; exact ih
/-- an alternative that fits stands at its way's number, and nowhere else -/
theorem fitL_at {l x k a : Nat} (hk : ap s k x = some a) (hlt : k < (sts s x).length) (hf : altFit s (nFit s l) (expFit s (nFit s l)) (fe s a).1 = true) : (fitL s l x)[wayIx s l x k]? = some k := by
  have e : (sts s x)[k]?.getD 0 = a := by rw [← sts_ap, hk]; rfl
  exact rfit_at (p := fun j => altFit s (nFit s l) (expFit s (nFit s l)) (fe s ((sts s x).getD j 0)).1) (by simpa [e] using hf) _ hlt
theorem fitL_inj {l x i j : Nat} (hi : i < (fitL s l x).length) (hj : j < (fitL s l x).length) (h : (fitL s l x)[i] = (fitL s l x)[j]) : i = j := by
  have hn : (fitL s l x).Nodup := List.Pairwise.filter _ List.nodup_range
  exact (List.getElem_inj hn).1 h

set_option maxHeartbeats 1000000 in
set_option maxRecDepth 1000000 in
theorem rrexpr_any (v : Eq2 s t m) {n : Nat} (hE : SaidRR b s t m B g n) : SaidRR b s t m B g (n + 1) := by
  intro lq p x k0 l i j h T w hk hEA hl hx h10 hl9 hp hhl hT
  subst hl
  have ht := v.ht
  have hs := v.gram.small
  have hnm := nms_lows s 27
  have hBb := hk.hB
  have hblt := hk.lt
  cases k0 with
  | zero => exact hEA.elim
  | succ k0 =>
  have hFT := fun w hB hE => fitting_any (B := B) (m := k0) (p := p) (x := x) hs hnm (l : Nat) w hB hE
  have hfe := fits_eq' v.gram hl9 x
  obtain ⟨nm, hnmE⟩ : ∃ nm, nm = lowsF s 27 := ⟨_, rfl⟩
  rw [← hnmE] at hFT hfe hnm
  obtain ⟨K, y, hbk, hk9, hka, hpf⟩ := pE_parts hp
  obtain ⟨hKlen, hKfit⟩ := pE_mem hka hpf hhl
  have hat := fitL_at hka hKlen hKfit
  have hit : i < t.size := bt_lt (by omega)
  have hb := bt_at t i hit
  obtain ⟨hij, hjt, _⟩ := pE_fwd s t 0 (n + 1) x i j h hp
  have hLle := fitL_len s l x
  have hIx := (List.getElem?_eq_some_iff.1 hat).1
  have hinj : ∀ q (hq : q < (fitL s l x).length), (fitL s l x)[q] = K → q = wayIx s l x K := fun q hq e => fitL_inj hq hIx (by rw [e, (List.getElem?_eq_some_iff.1 hat).2])
  generalize hR : T ++ dE s t m (n + 1) l x i = R
  unfold dE at hR
  rw [show (bt t i - 48).toNat = K by omega, hka] at hR
  simp only at hR
  have hdl := dgt_len (fitL s l x).length (wayIx s l x K)
  have hwle := wayIx_le s l x K
  obtain ⟨hpB, N, gv, cap, hN0, hN4, hcp, hgv, hNn, hall⟩ := id hEA
  have hKN : K < N := by
    rcases Nat.lt_or_ge K N with h | h
    · exact h
    · rw [ap_none hNn _ h] at hka; cases hka
  obtain ⟨y', va, hap, hca, hA⟩ := hall K hKN
  have hyy : y' = y := by rw [hap] at hka; injection hka
  subst hyy
  obtain ⟨ao, ca, rfl, hfac⟩ := hA
  have hlen := fe_len s y'
  have hmem : ∀ f ∈ (fe s y').1, isF s f = true := fun f hf => (fe_mem hf).1
  rw [hbk] at hb
  generalize hFL : (fe s y').1 = FL at *
  generalize hW : wayIx s l x K = W at *
  have hin : Hid ((Tryz.prog.info? 57).map (·.size) = some (nms nm).length) := hide (by rw [nms_len]; exact Tryz.infoArr)
  have hL10 : (fitL s l x).length ≤ 10 := by omega
  have HR := hide hR
  have HPF := hide hpf
  have HFE := hide hfe
  have HFT := hide hFT
  have HAT := hide hat
  have HINJ := hide hinj
  have HFAC := hide hfac
  have HMEM := hide hmem
  have HNM := hide hnmE
  have HK := hide hk
  have HEA := hide hEA
  have c28 := hk.chs
  have c29 := hk.tak
  have f29 := hk.tkf
  have hpl : p < B := hpB
  have hgl : gv < B := hgv
  have hcb : (t[i].toNat : Int) = 48 + (K : Int) := hb.symm
  have hk48 : (48 + (K : Int)) - 48 = K := by omega
  clear hFT hEA hk hR hnmE hfe hpf hat hinj hfac hmem hall hNn hap hFL hW hKlen hKfit hka hLle hp hbk hb h10
  go_enter Tryz.func75, Tryz.ntmps75
  go_wp2_with fail
  go_quiet (fail)
  have HK1 := hide (((unhide HK).below (below_drewN (Below.refl _ _) nq)).takeI (i + 1) (x := (i : Int) + 1) (by omega))
  have HB1 : Hid (But b w ((w.drewN nq).setCell ⟨b, 29, none⟩ (.int .i64 ((i : Int) + 1)))) := hide ((But.of (below_drewN (Below.refl _ _) nq)).trans (But.set _ _ _ _))
  have HRG : Hid (((w.drewN nq).setCell ⟨b, 29, none⟩ (.int .i64 ((i : Int) + 1))).rangeAt b 1 (nms nm)) := hide (by rw [unhide HNM]; exact (unhide HK1).nam)
  go_wp2_with (first | (refine wpList_load_mid rfl 57 _ rfl b 1 rfl (nms nm) _ (unhide HRG) Tryz.underlying57 rfl (unhide hin) ?_) | fail)
  generalize (w.drewN nq).setCell ⟨b, 29, none⟩ (.int .i64 ((i : Int) + 1)) = w1 at *
  have hz1 := (unhide HB1).size
  clear c28 c29 f29 hk48
  refine (unhide HFT _ (by omega) ((unhide HEA).but (unhide HB1) hBb (by omega))).mono ?_
  rintro e w2 ⟨vv, rfl, hown, hb2⟩
  rw [unhide HFE] at hown
  generalize hFF : fitL s l x = FF at *
  obtain ⟨gl, cap1, rfl⟩ : ∃ gl cap1, vv = .slice (some ⟨gl, 0, none⟩) FF.length cap1 := by
    rcases hown.2 with ⟨_, e⟩ | ⟨gl, cap1, _, e, _⟩
    · omega
    · exact ⟨gl, cap1, e⟩
  have hglt := hown.lt gl rfl
  have hcell : ∀ q (hq : q < FF.length), w2.cell? ⟨gl, q, none⟩ = some (.int .i64 ((FF[q] : Nat) : Int)) := fun q hq => by
    rw [hown.cellAt q (by omega)]
    unfold ints
    rw [List.getElem?_map, List.getElem?_eq_getElem hq]; rfl
  have HCELL := hide hcell
  have HK2 := hide ((unhide HK1).below hb2)
  have HB2 := hide ((unhide HB1).trans (But.of hb2))
  have hz2 := hb2.size
  clear hown hb2 hcell HRG HK1
  go_wp2
  go_loopw [8] (fun iv wr => ∃ q : Nat, iv = .int .i64 q ∧ q ≤ FF.length ∧ Hid (Rm wr b s t m B g (i + 1) (T ++ (if W < q then dgt FF.length W else []))) ∧ Hid (But b w2 wr)) (fun iv _ => 30 - (intOf iv).toNat)
  case atStart => exact ⟨0, by go_num, Nat.zero_le _, hide (by rw [if_neg (by omega), List.append_nil]; exact unhide HK2), hide (But.refl _ _)⟩
  case round =>
    obtain ⟨q, rfl, hq, hM, hB⟩ := hrel
    by_cases hlt : q < FF.length
    · have hc := ((unhide hB).cell (g := gl) (o := q) (by omega) (by omega)).trans (unhide HCELL q hlt)
      by_cases hqW : q = W
      · have hval : FF[q] = K := by
          have h := unhide HAT
          rw [← hqW, List.getElem?_eq_getElem hlt] at h
          injection h
        rw [hval] at hc
        have hM2 : Hid (Rm wr b s t m B g (i + 1) T) := hide (by have h := unhide hM; rw [if_neg (by omega), List.append_nil] at h; exact h)
        subst hqW
        clear hM
        go_wp2_with fail
        refine (took_any (unhide hM2) (by omega) _ _ FF.length q rfl rfl (by omega) (by omega)).mono ?_
        rintro e w3 ⟨rfl, hk3, hb3⟩
        have HK3 := hide hk3
        have HB3 := hide ((unhide hB).trans hb3)
        clear hk3 hb3 hc
        go_wp2
        go_roundw
        case rel => exact ⟨q + 1, by go_num, by omega, by rw [if_pos (by omega)]; exact HK3, HB3⟩
        case measure => simp [intOf]; omega
      · have hne : (((FF[q] : Nat) : Int) == (K : Int)) = false := by
          simp only [beq_eq_false_iff_ne]
          intro e
          exact hqW (unhide HINJ q hlt (by omega))
        go_wp2
        go_roundw
        case rel =>
          refine ⟨q + 1, by go_num, by omega, ?_, hB⟩
          by_cases hh : W < q
          · rw [if_pos (by omega)]; rw [if_pos hh] at hM; exact hM
          · rw [if_neg (by omega)]; rw [if_neg hh] at hM; exact hM
        case measure => simp [intOf]; omega
    · have hqL : q = FF.length := by omega
      subst hqL
      rw [if_pos (by omega)] at hM
      generalize hDD : T ++ dgt FF.length W = DD at *
      have hDDl : DD.length ≤ i + 1 := by rw [← hDD]; simp only [List.length_append]; omega
      have HRR : Hid (R = DD ++ dFs (pF s t 0 (pE s t 0 n)) (dF s t m (pE s t 0 n) (dE s t m n) l) FL (i + 1)) := hide (by rw [← unhide HR, ← hDD]; simp)
      have HBw := hide ((unhide HB2).trans (unhide hB))
      clear hDD HR hdl
      go_wp2
      go_loopw [9] (fun iv wr2 => ∃ (q1 i1 top : Nat) (D1 : List Int), iv = .int .i64 q1 ∧ q1 ≤ FL.length ∧ Hid (Rm wr2 b s t m B g i1 D1) ∧ Hid (But b w wr2) ∧ Hid (pFs (pF s t 0 (pE s t 0 n)) (FL.drop q1) i1 top = some (j, h)) ∧ Hid (R = D1 ++ dFs (pF s t 0 (pE s t 0 n)) (dF s t m (pE s t 0 n) (dE s t m n) l) (FL.drop q1) i1) ∧ D1.length ≤ i1) (fun iv _ => 400 - (intOf iv).toNat)
      case atStart => exact ⟨0, i + 1, 0, DD, by go_num, Nat.zero_le _, hM, HBw, HPF, HRR, hDDl⟩
      case round =>
        obtain ⟨q1, i1, top, D1, rfl, hq1, hM1, hB1, hPp, hRe, hD1⟩ := hrel
        have g0 := ((unhide hB1).cell (g := p) (o := 0) (by omega) (by omega)).trans hcp
        have g1 := ((unhide hB1).cell (g := gv) (o := K) (by omega) (by omega)).trans hca
        by_cases hlt1 : q1 < FL.length
        · obtain ⟨ga, rfl, hga, hF⟩ := unhide HFAC q1 hlt1
          have hga' : ga < B := hga
          have hin1 : FL.getD q1 0 ∈ FL := by rw [List.getD_eq_getElem?_getD, List.getElem?_eq_getElem hlt1]; simp
          have hfm := unhide HMEM (FL.getD q1 0) hin1
          have hdrop : FL.drop q1 = FL.getD q1 0 :: FL.drop (q1 + 1) := by
            rw [List.drop_eq_getElem_cons hlt1, List.getD_eq_getElem?_getD, List.getElem?_eq_getElem hlt1]; rfl
          have hP := unhide hPp
          have hR2 := unhide hRe
          rw [hdrop] at hP hR2
          clear hPp hRe hdrop hin1
          generalize FL.getD q1 0 = fk at *
          obtain ⟨hF1, hF2⟩ := hF
          have hcb2 : ∀ o, wr.cell? ⟨ga, o, none⟩ = w.cell? ⟨ga, o, none⟩ := fun o => (unhide hB1).cell (g := ga) (by omega) (by omega)
          have k0' := (hcb2 (q1 * 2)).trans hF1
          obtain ⟨sv, k1', hsub⟩ : ∃ sv, wr.cell? ⟨ga, q1 * 2 + 1, none⟩ = some sv ∧ SubOk wr s B fk sv := by
            rcases hF2 with ⟨r1, r2⟩ | ⟨r1, p', r2, r3⟩
            · exact ⟨_, (hcb2 _).trans r2, .inl ⟨r1, rfl⟩⟩
            · exact ⟨_, (hcb2 _).trans r2, .inr ⟨r1, p', k0, rfl, r3.but (unhide hB1) hBb (by omega)⟩⟩
          cases hqf : pF s t 0 (pE s t 0 n) fk i1 with
          | none => unfold pFs at hP; rw [hqf] at hP; cases hP
          | some qq =>
            obtain ⟨a1, kk⟩ := qq
            have hP2 : pFs (pF s t 0 (pE s t 0 n)) (FL.drop (q1 + 1)) a1 (max top kk) = some (j, h) := by unfold pFs at hP; rw [hqf] at hP; exact hP
            have hkk : kk ≤ l := by have := (pFs_parts _ _ _ _ _ hP2).1; omega
            have HR2 : Hid (R = (D1 ++ dF s t m (pE s t 0 n) (dE s t m n) l fk i1) ++ dFs (pF s t 0 (pE s t 0 n)) (dF s t m (pE s t 0 n) (dE s t m n) l) (FL.drop (q1 + 1)) a1) := hide (by
              rw [hR2]; simp only [dFs, hqf]; simp)
            have HP2 := hide hP2
            have HQF := hide hqf
            have HSUB := hide hsub
            have HFM := hide hfm
            clear hF1 hF2 hsub hfm hP hR2 hcb2 hP2 hqf
            go_wp2_with fail
            refine (rrfac_any v hE _ sv fk l i1 a1 kk D1 _ (unhide hM1) (unhide HSUB) rfl hl9 (unhide HFM) (unhide HQF) hkk hD1).mono ?_
            rintro e w4 ⟨rfl, hk4, hb4, hD4⟩
            have HK4 := hide hk4
            have HB4 := hide ((unhide hB1).trans hb4)
            clear hk4 hb4 k0' k1' g0 g1
            go_wp2
            go_roundw
            case rel => exact ⟨q1 + 1, a1, max top kk, _, by go_num, by omega, HK4, HB4, HP2, HR2, hD4⟩
            case measure => simp [intOf]; omega
        · have hend : i1 = j ∧ D1 = R := by
            have h := unhide hRe
            have h' := unhide hPp
            rw [List.drop_eq_nil_of_le (by omega)] at h h'
            simp only [pFs, Option.some.injEq, Prod.mk.injEq] at h'
            exact ⟨h'.1, by rw [h]; simp [dFs]⟩
          obtain ⟨he1, he2⟩ := hend
          have hqF : q1 = FL.length := by omega
          subst he1 he2 hqF
          clear hRe hPp
          go_wp2
          go_end0
          exact ⟨rfl, unhide hM1, unhide hB1, hD1⟩
theorem rrexpr_all (v : Eq2 s t m) : ∀ n, SaidRR b s t m B g n
  | 0 => fun _ _ _ _ _ _ _ _ _ _ _ _ _ _ _ _ hp _ _ => by cases hp
  | n + 1 => rrexpr_any v (rrexpr_all v n)
end
end Go.Proofs.YtnfaiaoipeholaaGreatDoor
