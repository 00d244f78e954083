/- The reference's maker: an expression; all depths. -/
import Derived.Test.YtnfaiaoipeholaaGreatMkRmb
namespace Go.Proofs.YtnfaiaoipeholaaGreat
open Go.RowKit
section
variable {b : Nat} {s c : ByteArray} {m B g : Nat}

theorem fits_eq (gr : Gram s) {l : Nat} (hl : l ≤ 9) (x : Nat) : fits s (lowsF s 27) x (l : Nat) = fitL s l x := by
  unfold fits fitK fitL
  congr 1; funext k
  rw [Bool.eq_iff_iff, decide_eq_true_eq]
  exact alt_nFit gr (by omega) _

/-- any factor -/
theorem rfac_any (v : Er s c m) {n : Nat} (hn : n ≤ 5000) (hE : SaidR b s c m B g n) (lq : Int) (sv : Value) (x f l a : Nat) (T : List Int) (w : World) (hk : Rm w b s c m B g a T) (hS : SubOk w s B f sv) (hl : lq = l) (hl9 : l ≤ 9) (hf : isF s f = true) (hfit : facFit s (nFit s l) (expFit s (nFit s l)) f = true)
    (hx : x ≤ f) (hd : dep s l x < n + 1) (hT : T.length ≤ 7000000) (ha : a ≤ T.length) :
    Calls Tryz.prog 64 #[.pointer (some ⟨b, 0, none⟩), .agg #[.int .u8 (bt s f), sv], .int .i64 lq] w fun e w' => OutR b s c m B g w T (genF s c m (genE s c m n) l f a) (max T.length (2001 + 1000 * n) + 3) e w' := by
  have hfl := isF_lt hf
  have hd1 : dep s l (f + 1) < n := by have := dep_sub (s := s) (l := l) hx hfl; omega
  rcases hS with ⟨h3, rfl⟩ | ⟨h3, p, k, rfl, hEA⟩
  · cases h2 : cN (bt s f)
    · exact rfac_letter lq f l a T w hk h2 h3 (by omega) ha
    · have hfn : nFit s l (bt s f - 65).toNat = true := by unfold facFit at hfit; rw [if_pos h2] at hfit; exact hfit
      exact rfac_name v hn hE lq f l a T w hk hl hl9 h2 hfn (fun y => by have := dep_name (s := s) (l := l) (x := x) (y := y) (by omega) (nFit_pos' hfn); omega) hT ha
  · have h2 : cN (bt s f) = false := by have := cO_vals h3; simp [cN]; omega
    unfold facFit at hfit
    rw [if_neg (by simp [h2])] at hfit
    rcases cO_vals h3 with hK | hK | hK | hK
    · rw [if_pos (.inl hK)] at hfit
      exact rbr_grp v hn hE lq p k f l a T w hk hEA hl hl9 hK hfit hfl hd1 hT ha
    · cases hx : expFit s (nFit s l) (f + 1)
      · exact rbr_optn v hn hE lq p k f l a T w hk hEA hl hl9 hK hx hfl hd1 hT ha
      · exact rbr_opt v hn hE lq p k f l a T w hk hEA hl hl9 hK hx hfl hd1 hT ha
    · cases hx : expFit s (nFit s l) (f + 1)
      · exact rbr_lstn v hn hE lq p k f l a T w hk hEA hl hl9 hK hx hfl hd1 hT ha
      · exact rbr_lst v hn hE lq p k f l a T w hk hEA hl hl9 hK hx hfl hd1 hT ha
    · rw [if_pos (.inr hK)] at hfit
      exact rbr_ne v hn hE lq p k f l a T w hk hEA hl hl9 hK hfit hfl hd1 hT ha

theorem Rm.below_ {w : World} {a : Nat} {T : List Int} (h : Rm w b s c m B g a T) : B ≤ w.heap.size := Nat.le_trans h.hB (Nat.le_of_lt h.lt)

set_option maxHeartbeats 1000000 in
set_option maxRecDepth 1000000 in
theorem rexpr_any (v : Er s c m) {n : Nat} (hn : n ≤ 5000) (hE : SaidR b s c m B g n) : SaidR b s c m B g (n + 1) := by
  intro lq p x k l a T w hk hEA hl hx h10 hl9 hfit hd hT ha
  subst hl
  have hs := v.gram.small
  have hnm := nms_lows s 27
  have hBw := hk.below_
  have hBb := hk.hB
  have hblt := hk.lt
  cases k with
  | zero => exact hEA.elim
  | succ k =>
  have hFT := fun w hB hE => fitting_any (B := B) (m := k) (p := p) (x := x) hs hnm (l : Nat) w hB hE
  have hfe := fits_eq v.gram hl9 x
  obtain ⟨nm, hnmE⟩ : ∃ nm, nm = lowsF s 27 := ⟨_, rfl⟩
  rw [← hnmE] at hFT hfe hnm
  have HRG : Hid (w.rangeAt b 1 (nms nm)) := hide (by rw [hnmE]; exact hk.nam)
  have HFT := hide hFT
  have HEA := hide hEA
  have HK := hide hk
  generalize hR : genE s c m (n + 1) l x a = R
  unfold genE at hR
  have HR := hide hR
  have HFE := hide hfe
  have hL0 := fitL_ne hfit
  have hLb := fitL_len s l x
  have hWL := wayN_lt c a _ hL0
  have hAle := wayA_le a (fitL s l x).length
  obtain ⟨hG1, hG2⟩ := fitL_mem (gone_mem (c := c) (a := a) hfit)
  have hGat : (fitL s l x)[wayN c a (fitL s l x).length]? = some (gone s c l x a) := by
    unfold gone; rw [List.getD_eq_getElem?_getD, List.getElem?_eq_getElem hWL]; rfl
  obtain ⟨hp, N, gv, cap, hN0, hN4, hcp, hgv, hNn, hall⟩ := id hEA
  have hGN : gone s c l x a < N := by
    rcases Nat.lt_or_ge (gone s c l x a) N with h | h
    · exact h
    · have h2 := ap_none hNn _ h
      rw [sts_ap] at h2
      have := List.getElem?_eq_none_iff.1 h2; omega
  have hG9 : gone s c l x a ≤ 9 := by omega
  obtain ⟨y, va, hap, hca, hA⟩ := hall _ hGN
  have hy : (sts s x).getD (gone s c l x a) 0 = y := by rw [List.getD_eq_getElem?_getD, ← sts_ap, hap]; rfl
  obtain ⟨ao, ca, rfl, hfac⟩ := hA
  rw [hy] at hG2 hR
  have hlen := fe_len s y
  have hmem : ∀ f ∈ (fe s y).1, isF s f = true ∧ x ≤ f := fun f hf => ⟨(fe_mem hf).1, by have := (fe_mem hf).2; have := (ap_bd hap).1; omega⟩
  have hL10 : (fitL s l x).length ≤ 10 := by omega
  generalize hLL : (fitL s l x).length = L at *
  generalize hWW : wayN c a L = W at *
  generalize hAA : wayA a L = A at *
  generalize gone s c l x a = G at *
  generalize hFL : (fe s y).1 = FL at *
  have hin : Hid ((Tryz.prog.info? 61).map (·.size) = some (nms nm).length) := hide (by rw [nms_len]; exact Tryz.infoArr)
  have HR := hide hR
  have HFE := hide hfe
  have HGat := hide hGat
  have HWW := hide hWW
  have HAA := hide hAA
  have HG2 := hide hG2
  have HFAC := hide hfac
  have HMEM := hide hmem
  have HLL := hide hLL
  have hpl : p < B := hp
  have hgl : gv < B := hgv
  clear hFT hEA hk hR hnmE hfe hGat hWW hAA hG2 hfac hmem hall hNn hap hy hFL hLL hfit hLb hG1 h10
  go_enter Tryz.func113, Tryz.ntmps113
  go_wp2_with (first | (refine wpList_load_mid rfl 61 _ rfl b 1 rfl (nms nm) _ (unhide HRG) Tryz.underlying61 rfl (unhide hin) ?_) | fail)
  refine (unhide HFT _ hBw (unhide HEA)).mono ?_
  rintro e w1 ⟨vv, rfl, hown, hb1⟩
  rw [unhide HFE] at hown
  have hown' := hown
  rw [unhide HLL] at hown'
  obtain ⟨gl, cap1, rfl⟩ : ∃ gl cap1, vv = .slice (some ⟨gl, 0, none⟩) L cap1 := by
    rcases hown'.2 with ⟨_, e⟩ | ⟨gl, cap1, _, e, _⟩
    · omega
    · exact ⟨gl, cap1, e⟩
  have hglt := hown'.lt gl rfl
  have hcell : w1.cell? ⟨gl, W, none⟩ = some (.int .i64 (G : Nat)) := by
    rw [hown'.cellAt W (by omega)]
    unfold ints
    rw [List.getElem?_map, unhide HGat]; rfl
  have HK1 := hide ((unhide HK).below hb1)
  have HB1 : Hid (But b w w1) := hide (But.of hb1)
  have c30 := (unhide HK1).out
  have hsz := strs_size T
  have hz1 := hb1.size
  have d0 := (hb1.cell (p := ⟨p, 0, none⟩) (by show p < _; omega)).trans hcp
  have d1 := (hb1.cell (p := ⟨gv, G, none⟩) (by show gv < _; omega)).trans hca
  have HEA1 := hide ((unhide HEA).below hb1 hBw)
  clear hown hown' hb1 hcp hca HK HEA HRG
  have hL0' : ((L : Int) == 0) = false := by simp only [beq_eq_false_iff_ne]; omega
  by_cases hbig : 2000 < T.length
  · have hbigd : decide ((2000 : Int) < (T.length : Int)) = true := by simp; omega
    have hbig' : (2000 : Int) < ((strOfNums T).size : Int) := by omega
    clear d0 d1 hcell
    go_wp2
    go_end0
    exact ⟨rfl, a, T, unhide HK1, unhide HB1, Ends.skip hbig _ _, ha, by omega⟩
  · have hbigd : decide ((2000 : Int) < (T.length : Int)) = false := by simp; omega
    have hbig' : ((strOfNums T).size : Int) ≤ 2000 := by omega
    go_wp2_with fail
    refine (way_any (unhide HK1) v.dg (by omega) _ L rfl (by omega)).mono ?_
    rw [unhide HWW, unhide HAA]
    rintro e w2 ⟨rfl, hk2, hb2⟩
    have hcell2 := (hb2.cell (g := gl) (o := W) (by omega) (by omega)).trans hcell
    have e0 := (hb2.cell (g := p) (o := 0) (by omega) (by omega)).trans d0
    have e1 := (hb2.cell (g := gv) (o := G) (by omega) (by omega)).trans d1
    have hcv := conv_one w2 (48 + (G : Int))
    have hz2 := hb2.size
    have HKa := hide (hk2.below ((Below.refl _ _).alloc (Nat.le_refl _) (.cells #[.int .u8 (48 + (G : Int))] 5)))
    have HBa : Hid (But b w1 (w2.alloc (.cells #[.int .u8 (48 + (G : Int))] 5))) := hide (hb2.alloc _)
    clear hk2 hb2 hcell c30
    go_wp2_with fail
    refine (put_any (unhide HKa) (by omega) [48 + (G : Int)] _ rfl (by simp)).mono ?_
    rintro e w3 ⟨rfl, hk3, hb3⟩
    have HB3 := hide ((unhide HBa).trans hb3)
    have HK3 := hide hk3
    clear hcv hcell2 e0 e1 hk3 hb3 HKa HBa
    go_wp2
    go_loopw [9] (fun iv wr => ∃ (i a1 : Nat) (T1 : List Int) (p1 : Nat × List Int), iv = .int .i64 i ∧ i ≤ FL.length ∧ Hid (Rm wr b s c m B g a1 T1) ∧ Hid (But b w1 wr) ∧ Hid (Ends T p1 a1 T1) ∧ Hid (R = ((facsG (genF s c m (genE s c m n) l) (FL.drop i) p1.1).1, p1.2 ++ (facsG (genF s c m (genE s c m n) l) (FL.drop i) p1.1).2)) ∧ a1 ≤ T1.length ∧ T1.length ≤ 2001 + 1000 * n + 3 * i) (fun iv _ => 400 - (intOf iv).toNat)
    case atStart => exact ⟨0, A, T ++ [48 + (G : Int)], (A, [48 + (G : Int)]), rfl, Nat.zero_le _, HK3, HB3, hide (Ends.put T [48 + (G : Int)] A), hide (unhide HR).symm, by simp; omega, by simp; omega⟩
    case round =>
      obtain ⟨i, a1, T1, p1, rfl, hil, hM, hB, hEn, hRe, ha1, hT1⟩ := hrel
      have g0 := ((unhide hB).cell (g := p) (o := 0) (by omega) (by omega)).trans d0
      have g1 := ((unhide hB).cell (g := gv) (o := G) (by omega) (by omega)).trans d1
      by_cases hlt : i < FL.length
      · obtain ⟨ga, rfl, hga, hF⟩ := unhide HFAC i hlt
        have hga' : ga < B := hga
        have hin1 : FL.getD i 0 ∈ FL := by rw [List.getD_eq_getElem?_getD, List.getElem?_eq_getElem hlt]; simp
        have hfm := unhide HMEM (FL.getD i 0) hin1
        have hff := unhide HG2 (FL.getD i 0) hin1
        have hdrop : FL.drop i = FL.getD i 0 :: FL.drop (i + 1) := by
          rw [List.drop_eq_getElem_cons hlt, List.getD_eq_getElem?_getD, List.getElem?_eq_getElem hlt]; rfl
        have hR2 := unhide hRe
        rw [hdrop] at hR2
        clear hRe hdrop hin1
        generalize FL.getD i 0 = fk at *
        obtain ⟨hF1, hF2⟩ := hF
        have hcb : ∀ o, wr.cell? ⟨ga, o, none⟩ = w.cell? ⟨ga, o, none⟩ := fun o => ((unhide HB1).trans (unhide hB)).cell (g := ga) (by omega) (by omega)
        have k0 := (hcb (i * 2)).trans hF1
        obtain ⟨sv, k1, hsub⟩ : ∃ sv, wr.cell? ⟨ga, i * 2 + 1, none⟩ = some sv ∧ SubOk wr s B fk sv := by
          rcases hF2 with ⟨q1, q2⟩ | ⟨q1, p', q2, q3⟩
          · exact ⟨_, (hcb _).trans q2, .inl ⟨q1, rfl⟩⟩
          · exact ⟨_, (hcb _).trans q2, .inr ⟨q1, p', k, rfl, q3.but ((unhide HB1).trans (unhide hB)) hBb (by omega)⟩⟩
        have HSUB := hide hsub
        have HFM := hide hfm.1
        have hxf := hfm.2
        have HFF := hide hff
        have hRe' : Hid (R = ((facsG (genF s c m (genE s c m n) l) (FL.drop (i + 1)) (genF s c m (genE s c m n) l fk p1.1).1).1, (p1.2 ++ (genF s c m (genE s c m n) l fk p1.1).2) ++ (facsG (genF s c m (genE s c m n) l) (FL.drop (i + 1)) (genF s c m (genE s c m n) l fk p1.1).1).2)) := hide (by
          rw [hR2]; simp [facsG])
        clear hF1 hF2 hsub hfm hff hR2 hcb
        go_wp2_with fail
        refine (rfac_any v hn hE _ sv x fk l a1 _ _ (unhide hM) (unhide HSUB) rfl hl9 (unhide HFM) (unhide HFF) hxf hd (by omega) ha1).mono ?_
        rintro e w4 ⟨rfl, a4, T4, hk4, hb4, he4, ha4, hT4⟩
        have HK4 := hide hk4
        have HB4 := hide ((unhide hB).trans hb4)
        have HE4 := hide ((unhide hEn).seq (q := genF s c m (genE s c m n) l fk) he4)
        clear hk4 hb4 he4 hEn k0 k1 g0 g1
        go_wp2
        go_roundw
        case rel => exact ⟨i + 1, a4, T4, _, by go_num, by omega, HK4, HB4, HE4, hRe', ha4, by omega⟩
        case measure => simp [intOf]; omega
      · have HE : Hid (Ends T R a1 T1) := hide (by
          have h := unhide hRe
          rw [List.drop_eq_nil_of_le (by omega)] at h
          have e : R = p1 := by rw [h]; simp [facsG]
          rw [e]; exact unhide hEn)
        have hil' : i = FL.length := by omega
        subst hil'
        clear hRe hEn
        go_wp2
        go_end0
        exact ⟨rfl, a1, T1, unhide hM, (unhide HB1).trans (unhide hB), unhide HE, ha1, by omega⟩
theorem rexpr_all (v : Er s c m) : ∀ n, n ≤ 5000 → SaidR b s c m B g n
  | 0, _ => fun _ _ _ _ _ _ _ _ _ _ _ _ _ _ _ hd _ _ => by omega
  | n + 1, hn => rexpr_any v (by omega) (rexpr_all v n (by omega))
end
end Go.Proofs.YtnfaiaoipeholaaGreat
