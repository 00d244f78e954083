/- The reference's recaller: an expression; all depths. -/
import Derived.Test.YtnfaiaoipeholaaGreatRcRrb
import Derived.Test.YtnfaiaoipeholaaGreatRRead
import Derived.Test.YtnfaiaoipeholaaGreatRcRStart
namespace Go.Proofs.YtnfaiaoipeholaaGreat
open Go.RowKit
section
variable {b : Nat} {s t : ByteArray} {m B g : Nat}
theorem fits_eq' (gr : Gram s) {l : Nat} (hl : l ≤ 9) (x : Nat) : fits s (lowsF s 27) x (l : Nat) = fitL s l x := by
  unfold fits fitK fitL
  congr 1; funext k
  rw [Bool.eq_iff_iff, decide_eq_true_eq]
  exact alt_nFit gr (by omega) _

/-- any factor -/
theorem rrfac_any (v : Eq2 s t m) {n : Nat} (hE : SaidRR b s t m B g n) (lq : Int) (sv : Value) (f l i j h : Nat) (T : List Int) (w : World) (hk : Rm w b s t m B g i T) (hS : SubOk w s B f sv) (hl : lq = l) (hl9 : l ≤ 9) (hf : isF s f = true)
    (hp : pF s t 0 (pE s t 0 n) f i = some (j, h)) (hhl : h ≤ l) (hT : T.length ≤ i) :
    Calls Tryz.prog 65 #[.pointer (some ⟨b, 0, none⟩), .agg #[.int .u8 (bt s f), sv], .int .i64 lq] w fun e w' => OutRR b s t m B g w j (T ++ dF s t m (pE s t 0 n) (dE s t m n) l f i) e w' := by
  have ht := v.ht
  have hfl := isF_lt hf
  have hfit := pF_fit (fun x i j h l => pE_fit n x i j h l) hp hhl
  have hnz : bt s f ≠ 0 := by intro e; rw [isF, e] at hf; exact absurd hf (by decide)
  have hp0 := hp
  unfold pF at hp
  split at hp
  · cases hp
  rename_i hbt
  have hbt' : bt t i = bt s f := by omega
  have hit : i < t.size := bt_lt (by omega)
  clear hbt
  rcases hS with ⟨h3, rfl⟩ | ⟨h3, p, k, rfl, hEA⟩
  · cases h2 : cN (bt s f)
    · have hL : cL (bt s f) = true := by simpa [isF, h2, h3] using hf
      rw [if_pos hL] at hp
      simp only [Option.some.injEq, Prod.mk.injEq] at hp
      have hR : dF s t m (pE s t 0 n) (dE s t m n) l f i = [] := by unfold dF; rw [if_neg (by simp [h2]), if_neg (by simp [h3])]
      rw [hR, List.append_nil, ← hp.1]
      exact rrfac_letter lq f i T w hk h2 (by omega) hT
    · have hL : cL (bt s f) = false := by
        have hv : 65 ≤ bt s f ∧ bt s f ≤ 90 := by simpa [cN] using h2
        simp [cL]; omega
      rw [if_neg (by simp [hL]), if_pos h2] at hp
      unfold pN at hp
      split at hp
      · cases hp
      cases hq : pE s t 0 n (rl s (bt s f) + 2).toNat (i + 1 + 1) with
      | none => rw [hq] at hp; cases hp
      | some q =>
        obtain ⟨a, k⟩ := q
        rw [hq] at hp
        simp only at hp
        split at hp
        case isFalse => cases hp
        rename_i h41
        simp only [Option.some.injEq, Prod.mk.injEq] at hp
        obtain ⟨hp1, hp2⟩ := hp
        subst hp1
        have hR : dF s t m (pE s t 0 n) (dE s t m n) l f i = dE s t m n (l - 1) (rl s (bt s f) + 2).toNat (i + 2) := by unfold dF; rw [if_pos h2]
        rw [hR]
        exact rrfac_name v hE lq f l i a k T w hk hl hl9 h2 hq (bt_lt (by omega)) (by omega) hT
  · have h2 : cN (bt s f) = false := by have := cO_vals h3; simp [cN]; omega
    have hL : cL (bt s f) = false := by have := cO_vals h3; simp [cL]; omega
    rw [if_neg (by simp [hL]), if_neg (by simp [h2])] at hp
    have hR : dF s t m (pE s t 0 n) (dE s t m n) l f i = dB s t m (pE s t 0 n) (dE s t m n) l f (i + 1) := by unfold dF; rw [if_neg (by simp [h2]), if_pos h3]
    rw [hR]
    unfold facFit at hfit
    rw [if_neg (by simp [h2])] at hfit
    rcases cO_vals h3 with hK | hK | hK | hK
    · rw [if_pos (.inl hK)] at hfit
      exact rrb_grp v hE lq p k f l i j h T w hk hEA hl hl9 hK hfit hfl (by rw [hbt', hK]) hp hhl hT
    · cases hx : expFit s (nFit s l) (f + 1)
      · exact rrb_optn v hE lq p k f l i j h T w hk hEA hl hl9 hK hx hfl (by rw [hbt', hK]) hp hhl hT
      · exact rrb_opt v hE lq p k f l i j h T w hk hEA hl hl9 hK hx hfl (by rw [hbt', hK]) hp hhl hT
    · cases hx : expFit s (nFit s l) (f + 1)
      · exact rrb_lstn v hE lq p k f l i j h T w hk hEA hl hl9 hK hx hfl (by rw [hbt', hK]) hp hhl hT
      · exact rrb_lst v hE lq p k f l i j h T w hk hEA hl hl9 hK hx hfl (by rw [hbt', hK]) hp hhl hT
    · rw [if_pos (.inr hK)] at hfit
      exact rrb_ne v hE lq p k f l i j h T w hk hEA hl hl9 hK hfit hfl (by rw [hbt', hK]) hp hhl hT

theorem rfit_at {p : Nat → Bool} {k : Nat} (hp : p k = true) : ∀ len, k < len → ((List.range len).filter p)[((List.range k).filter p).length]? = some k
  | 0, h => by omega
  | len + 1, h => by
    rw [List.range_succ, List.filter_append]
    by_cases e : k = len
    · subst e; simp [List.filter, hp]
    · have ih := rfit_at hp len (by omega)
      rw [List.getElem?_append_left (List.getElem?_eq_some_iff.1 ih).1]; exact ih
/-- an alternative that fits stands at its way's number, and nowhere else -/
theorem fitL_at {l x k a : Nat} (hk : ap s k x = some a) (hlt : k < (sts s x).length) (hf : altFit s (nFit s l) (expFit s (nFit s l)) (fe s a).1 = true) : (fitL s l x)[wayIx s l x k]? = some k := by
  have e : (sts s x)[k]?.getD 0 = a := by rw [← sts_ap, hk]; rfl
  exact rfit_at (p := fun j => altFit s (nFit s l) (expFit s (nFit s l)) (fe s ((sts s x).getD j 0)).1) (by simpa [e] using hf) _ hlt
theorem fitL_inj {l x i j : Nat} (hi : i < (fitL s l x).length) (hj : j < (fitL s l x).length) (h : (fitL s l x)[i] = (fitL s l x)[j]) : i = j := by
  have hn : (fitL s l x).Nodup := List.Pairwise.filter _ List.nodup_range
  exact (List.getElem_inj hn).1 h

set_option maxHeartbeats 1000000 in
set_option maxRecDepth 1000000 in
theorem rrexpr_any (v : Eq2 s t m) {n : Nat} (hE : SaidRR b s t m B g n) : SaidRR b s t m B g (n + 1) := by
  intro lq p x k0 l i j h T w hk hEA hl hx h10 hl9 hp hhl hT
  subst hl
  have ht := v.ht
  have hs := v.gram.small
  have hnm := nms_lows s 27
  have hBb := hk.hB
  have hblt := hk.lt
  cases k0 with
  | zero => exact hEA.elim
  | succ k0 =>
  have hFT := fun w hB hE => fitting_any (B := B) (m := k0) (p := p) (x := x) hs hnm (l : Nat) w hB hE
  have hfe := fits_eq' v.gram hl9 x
  obtain ⟨nm, hnmE⟩ : ∃ nm, nm = lowsF s 27 := ⟨_, rfl⟩
  rw [← hnmE] at hFT hfe hnm
  obtain ⟨K, y, hbk, hk9, hka, hpf⟩ := pE_parts hp
  obtain ⟨hKlen, hKfit⟩ := pE_mem hka hpf hhl
  have hat := fitL_at hka hKlen hKfit
  have hit : i < t.size := bt_lt (by omega)
  have hb := bt_at t i hit
  obtain ⟨hij, hjt, _⟩ := pE_fwd s t 0 (n + 1) x i j h hp
  have hLle := fitL_len s l x
  have hIx := (List.getElem?_eq_some_iff.1 hat).1
  have hinj : ∀ q (hq : q < (fitL s l x).length), (fitL s l x)[q] = K → q = wayIx s l x K := fun q hq e => fitL_inj hq hIx (by rw [e, (List.getElem?_eq_some_iff.1 hat).2])
  generalize hR : T ++ dE s t m (n + 1) l x i = R
  unfold dE at hR
  rw [show (bt t i - 48).toNat = K by omega, hka] at hR
  simp only at hR
  have hdl := dgt_len (fitL s l x).length (wayIx s l x K)
  have hwle := wayIx_le s l x K
  obtain ⟨hpB, N, gv, cap, hN0, hN4, hcp, hgv, hNn, hall⟩ := id hEA
  have hKN : K < N := by
    rcases Nat.lt_or_ge K N with h | h
    · exact h
    · rw [ap_none hNn _ h] at hka; cases hka
  obtain ⟨y', va, hap, hca, hA⟩ := hall K hKN
  have hyy : y' = y := by rw [hap] at hka; injection hka
  subst hyy
  obtain ⟨ao, ca, rfl, hfac⟩ := hA
  have hlen := fe_len s y'
  have hmem : ∀ f ∈ (fe s y').1, isF s f = true := fun f hf => (fe_mem hf).1
  rw [hbk] at hb
  generalize hFL : (fe s y').1 = FL at *
  generalize hW : wayIx s l x K = W at *
  have hin : Hid ((Tryz.prog.info? 61).map (·.size) = some (nms nm).length) := hide (by rw [nms_len]; exact Tryz.infoArr)
  have hL10 : (fitL s l x).length ≤ 10 := by omega
  have HR := hide hR
  have HPF := hide hpf
  have HFE := hide hfe
  have HFT := hide hFT
  have HAT := hide hat
  have HINJ := hide hinj
  have HFAC := hide hfac
  have HMEM := hide hmem
  have HNM := hide hnmE
  have HK := hide hk
  have HEA := hide hEA
  have c28 := hk.chs
  have c29 := hk.tak
  have f29 := hk.tkf
  have hpl : p < B := hpB
  have hgl : gv < B := hgv
  have hcb : (t[i].toNat : Int) = 48 + (K : Int) := hb.symm
  have hk48 : (48 + (K : Int)) - 48 = K := by omega
  clear hFT hEA hk hR hnmE hfe hpf hat hinj hfac hmem hall hNn hap hFL hW hKlen hKfit hka hLle hp hbk hb h10
  go_enter Tryz.func116, Tryz.ntmps116
  go_wp2_with fail
  go_quiet (fail)
  have HK1 := hide (((unhide HK).below (below_drewN (Below.refl _ _) nq)).takeI (i + 1) (x := (i : Int) + 1) (by omega))
  have HB1 : Hid (But b w ((w.drewN nq).setCell ⟨b, 29, none⟩ (.int .i64 ((i : Int) + 1)))) := hide ((But.of (below_drewN (Below.refl _ _) nq)).trans (But.set _ _ _ _))
  have HRG : Hid (((w.drewN nq).setCell ⟨b, 29, none⟩ (.int .i64 ((i : Int) + 1))).rangeAt b 1 (nms nm)) := hide (by rw [unhide HNM]; exact (unhide HK1).nam)
  go_wp2_with (first | (refine wpList_load_mid rfl 61 _ rfl b 1 rfl (nms nm) _ (unhide HRG) Tryz.underlying61 rfl (unhide hin) ?_) | fail)
  generalize (w.drewN nq).setCell ⟨b, 29, none⟩ (.int .i64 ((i : Int) + 1)) = w1 at *
  have hz1 := (unhide HB1).size
  clear c28 c29 f29 hk48
  refine (unhide HFT _ (by omega) ((unhide HEA).but (unhide HB1) hBb (by omega))).mono ?_
  rintro e w2 ⟨vv, rfl, hown, hb2⟩
  rw [unhide HFE] at hown
  generalize hFF : fitL s l x = FF at *
  obtain ⟨gl, cap1, rfl⟩ : ∃ gl cap1, vv = .slice (some ⟨gl, 0, none⟩) FF.length cap1 := by
    rcases hown.2 with ⟨_, e⟩ | ⟨gl, cap1, _, e, _⟩
    · omega
    · exact ⟨gl, cap1, e⟩
  have hglt := hown.lt gl rfl
  have hcell : ∀ q (hq : q < FF.length), w2.cell? ⟨gl, q, none⟩ = some (.int .i64 ((FF[q] : Nat) : Int)) := fun q hq => by
    rw [hown.cellAt q (by omega)]
    unfold ints
    rw [List.getElem?_map, List.getElem?_eq_getElem hq]; rfl
  have HCELL := hide hcell
  have HK2 := hide ((unhide HK1).below hb2)
  have HB2 := hide ((unhide HB1).trans (But.of hb2))
  have hz2 := hb2.size
  clear hown hb2 hcell HRG HK1
  go_wp2
  go_loopw [8] (fun iv wr => ∃ q : Nat, iv = .int .i64 q ∧ q ≤ FF.length ∧ Hid (Rm wr b s t m B g (i + 1) (T ++ (if W < q then dgt FF.length W else []))) ∧ Hid (But b w2 wr)) (fun iv _ => 30 - (intOf iv).toNat)
  case atStart => exact ⟨0, by go_num, Nat.zero_le _, hide (by rw [if_neg (by omega), List.append_nil]; exact unhide HK2), hide (But.refl _ _)⟩
  case round =>
    obtain ⟨q, rfl, hq, hM, hB⟩ := hrel
    by_cases hlt : q < FF.length
    · have hc := ((unhide hB).cell (g := gl) (o := q) (by omega) (by omega)).trans (unhide HCELL q hlt)
      by_cases hqW : q = W
      · have hval : FF[q] = K := by
          have h := unhide HAT
          rw [← hqW, List.getElem?_eq_getElem hlt] at h
          injection h
        rw [hval] at hc
        have hM2 : Hid (Rm wr b s t m B g (i + 1) T) := hide (by have h := unhide hM; rw [if_neg (by omega), List.append_nil] at h; exact h)
        subst hqW
        clear hM
        go_wp2_with fail
        refine (took_any (unhide hM2) (by omega) _ _ FF.length q rfl rfl (by omega) (by omega)).mono ?_
        rintro e w3 ⟨rfl, hk3, hb3⟩
        have HK3 := hide hk3
        have HB3 := hide ((unhide hB).trans hb3)
        clear hk3 hb3 hc
        go_wp2
        go_roundw
        case rel => exact ⟨q + 1, by go_num, by omega, by rw [if_pos (by omega)]; exact HK3, HB3⟩
        case measure => simp [intOf]; omega
      · have hne : (((FF[q] : Nat) : Int) == (K : Int)) = false := by
          simp only [beq_eq_false_iff_ne]
          intro e
          exact hqW (unhide HINJ q hlt (by omega))
        go_wp2
        go_roundw
        case rel =>
          refine ⟨q + 1, by go_num, by omega, ?_, hB⟩
          by_cases hh : W < q
          · rw [if_pos (by omega)]; rw [if_pos hh] at hM; exact hM
          · rw [if_neg (by omega)]; rw [if_neg hh] at hM; exact hM
        case measure => simp [intOf]; omega
    · have hqL : q = FF.length := by omega
      subst hqL
      rw [if_pos (by omega)] at hM
      generalize hDD : T ++ dgt FF.length W = DD at *
      have hDDl : DD.length ≤ i + 1 := by rw [← hDD]; simp only [List.length_append]; omega
      have HRR : Hid (R = DD ++ dFs (pF s t 0 (pE s t 0 n)) (dF s t m (pE s t 0 n) (dE s t m n) l) FL (i + 1)) := hide (by rw [← unhide HR, ← hDD]; simp)
      have HBw := hide ((unhide HB2).trans (unhide hB))
      clear hDD HR hdl
      go_wp2
      go_loopw [9] (fun iv wr2 => ∃ (q1 i1 top : Nat) (D1 : List Int), iv = .int .i64 q1 ∧ q1 ≤ FL.length ∧ Hid (Rm wr2 b s t m B g i1 D1) ∧ Hid (But b w wr2) ∧ Hid (pFs (pF s t 0 (pE s t 0 n)) (FL.drop q1) i1 top = some (j, h)) ∧ Hid (R = D1 ++ dFs (pF s t 0 (pE s t 0 n)) (dF s t m (pE s t 0 n) (dE s t m n) l) (FL.drop q1) i1) ∧ D1.length ≤ i1) (fun iv _ => 400 - (intOf iv).toNat)
      case atStart => exact ⟨0, i + 1, 0, DD, by go_num, Nat.zero_le _, hM, HBw, HPF, HRR, hDDl⟩
      case round =>
        obtain ⟨q1, i1, top, D1, rfl, hq1, hM1, hB1, hPp, hRe, hD1⟩ := hrel
        have g0 := ((unhide hB1).cell (g := p) (o := 0) (by omega) (by omega)).trans hcp
        have g1 := ((unhide hB1).cell (g := gv) (o := K) (by omega) (by omega)).trans hca
        by_cases hlt1 : q1 < FL.length
        · obtain ⟨ga, rfl, hga, hF⟩ := unhide HFAC q1 hlt1
          have hga' : ga < B := hga
          have hin1 : FL.getD q1 0 ∈ FL := by rw [List.getD_eq_getElem?_getD, List.getElem?_eq_getElem hlt1]; simp
          have hfm := unhide HMEM (FL.getD q1 0) hin1
          have hdrop : FL.drop q1 = FL.getD q1 0 :: FL.drop (q1 + 1) := by
            rw [List.drop_eq_getElem_cons hlt1, List.getD_eq_getElem?_getD, List.getElem?_eq_getElem hlt1]; rfl
          have hP := unhide hPp
          have hR2 := unhide hRe
          rw [hdrop] at hP hR2
          clear hPp hRe hdrop hin1
          generalize FL.getD q1 0 = fk at *
          obtain ⟨hF1, hF2⟩ := hF
          have hcb2 : ∀ o, wr.cell? ⟨ga, o, none⟩ = w.cell? ⟨ga, o, none⟩ := fun o => (unhide hB1).cell (g := ga) (by omega) (by omega)
          have k0' := (hcb2 (q1 * 2)).trans hF1
          obtain ⟨sv, k1', hsub⟩ : ∃ sv, wr.cell? ⟨ga, q1 * 2 + 1, none⟩ = some sv ∧ SubOk wr s B fk sv := by
            rcases hF2 with ⟨r1, r2⟩ | ⟨r1, p', r2, r3⟩
            · exact ⟨_, (hcb2 _).trans r2, .inl ⟨r1, rfl⟩⟩
            · exact ⟨_, (hcb2 _).trans r2, .inr ⟨r1, p', k0, rfl, r3.but (unhide hB1) hBb (by omega)⟩⟩
          cases hqf : pF s t 0 (pE s t 0 n) fk i1 with
          | none => unfold pFs at hP; rw [hqf] at hP; cases hP
          | some qq =>
            obtain ⟨a1, kk⟩ := qq
            have hP2 : pFs (pF s t 0 (pE s t 0 n)) (FL.drop (q1 + 1)) a1 (max top kk) = some (j, h) := by unfold pFs at hP; rw [hqf] at hP; exact hP
            have hkk : kk ≤ l := by have := (pFs_parts _ _ _ _ _ hP2).1; omega
            have HR2 : Hid (R = (D1 ++ dF s t m (pE s t 0 n) (dE s t m n) l fk i1) ++ dFs (pF s t 0 (pE s t 0 n)) (dF s t m (pE s t 0 n) (dE s t m n) l) (FL.drop (q1 + 1)) a1) := hide (by
              rw [hR2]; simp only [dFs, hqf]; simp)
            have HP2 := hide hP2
            have HQF := hide hqf
            have HSUB := hide hsub
            have HFM := hide hfm
            clear hF1 hF2 hsub hfm hP hR2 hcb2 hP2 hqf
            go_wp2_with fail
            refine (rrfac_any v hE _ sv fk l i1 a1 kk D1 _ (unhide hM1) (unhide HSUB) rfl hl9 (unhide HFM) (unhide HQF) hkk hD1).mono ?_
            rintro e w4 ⟨rfl, hk4, hb4, hD4⟩
            have HK4 := hide hk4
            have HB4 := hide ((unhide hB1).trans hb4)
            clear hk4 hb4 k0' k1' g0 g1
            go_wp2
            go_roundw
            case rel => exact ⟨q1 + 1, a1, max top kk, _, by go_num, by omega, HK4, HB4, HP2, HR2, hD4⟩
            case measure => simp [intOf]; omega
        · have hend : i1 = j ∧ D1 = R := by
            have h := unhide hRe
            have h' := unhide hPp
            rw [List.drop_eq_nil_of_le (by omega)] at h h'
            simp only [pFs, Option.some.injEq, Prod.mk.injEq] at h'
            exact ⟨h'.1, by rw [h]; simp [dFs]⟩
          obtain ⟨he1, he2⟩ := hend
          have hqF : q1 = FL.length := by omega
          subst he1 he2 hqF
          clear hRe hPp
          go_wp2
          go_end0
          exact ⟨rfl, unhide hM1, unhide hB1, hD1⟩
theorem rrexpr_all (v : Eq2 s t m) : ∀ n, SaidRR b s t m B g n
  | 0 => fun _ _ _ _ _ _ _ _ _ _ _ _ _ _ _ _ hp _ _ => by cases hp
  | n + 1 => rrexpr_any v (rrexpr_all v n)
end
end Go.Proofs.YtnfaiaoipeholaaGreat
/- The reference's Recall. -/
namespace Go.Proofs.YtnfaiaoipeholaaGreat
open Go.RowKit
theorem Tryz.builtRr (g : Nat) (nm : Nat → Int) (m : Int) (c : ByteArray) : Tryz.prog.built 101 [(0, .pointer (some ⟨g, 0, none⟩)), (1, .agg (nms nm).toArray), (2, .int .i64 m), (3, .string c)] = some (rms g nm m c).toArray := by kernel_rfl
theorem rwhole_parts {s t : ByteArray} {hh : Nat} (e : whole s t 0 = some hh) : t.size ≤ 2000 ∧ pF s t 0 (pE s t 0 (t.size + 1)) 0 0 = some (t.size, hh) := by
  unfold whole at e
  split at e
  · cases e
  · refine ⟨by omega, ?_⟩
    cases hq : pF s t 0 (pE s t 0 (t.size + 1)) 0 0 with
    | none => rw [hq] at e; cases e
    | some q =>
      obtain ⟨j, k⟩ := q
      rw [hq] at e
      simp only at e
      split at e
      · rename_i hj
        simp only [Option.some.injEq] at e
        rw [hj, e]
      · cases e

set_option maxHeartbeats 1000000 in
set_option maxRecDepth 1000000 in
theorem refRecall_ok {s t : ByteArray} (hk : (chk s).1 = 0) (h m hh : Nat) (w : World) (hs : s.size ≤ maxLen) (hw0 : whole s t 0 = some hh) (hl : 1 ≤ h ∧ h ≤ 9) (hm : 1 ≤ m ∧ m ≤ 5) (hhh : hh ≤ h) (hmx : (mx t : Int) ≤ m) :
    Calls Tryz.prog 35 #[.string s, .string t, .int .i64 h, .int .i64 m] w fun e w' => e = .returned (.tuple #[.string (strOfNums (told s t h m)), .int .i64 0]) ∧ Below w.heap.size w w' := by
  obtain ⟨ht, hpf⟩ := rwhole_parts hw0
  have htm : t.size ≤ maxLen := by unfold maxLen; omega
  have g := gram_of hk
  have ten := ten_chk hk
  have hgd : Good t m 0 t.size := (mx_le t (by omega)).1 hmx
  have v : Eq2 s t m := ⟨g, ten, ht, hm, hgd⟩
  have hN := start_name g
  have hF : isF s 0 = true := by unfold isF; rw [hN]; simp
  have hwm : whole s t m = some hh := by
    rcases whole_most (most := (m : Int)) (by omega) hF hw0 with ⟨e, _⟩ | ⟨_, p, _, p2, p3, p4⟩
    · exact e
    · have := hgd p (Nat.zero_le _) p2 p3; omega
  have hH := hgt_ref_some hk hw0
  have HH := hide hH
  have HWM := hide hwm
  have HV := hide v
  have HG := hide g
  have HPF := hide hpf
  have HFi := hide hF
  have HN := hide hN
  generalize hTT : told s t h m = TT
  have HTT := hide hTT
  obtain ⟨hl1, hl2⟩ := hl
  obtain ⟨hm1, hm2⟩ := hm
  have hcO : Hid (cO (bt s (0 : Nat)) = false) := hide (by
    have hv : 65 ≤ bt s (0 : Nat) ∧ bt s (0 : Nat) ≤ 90 := by simpa [cN] using hN
    cases e : cO (bt s (0 : Nat))
    · rfl
    · have := cO_vals e; omega)
  clear hTT hH hwm v ten hgd hpf hw0 hF hN hk
  go_enter Tryz.func35, Tryz.ntmps35
  go_wp2_with fail
  refine (refHeight_any _ _ _ hs htm).mono ?_
  rw [unhide HH]
  rintro e w1 ⟨rfl, hb1⟩
  go_wp2_with fail
  refine (read_gram _ (unhide HG) _).mono ?_
  rintro e w2 ⟨rfl, hG2, hb2⟩
  go_wp2_with fail
  refine (rwhole_any _ _ hG2 (Nat.le_refl _) (unhide HG).small htm (unhide HN)).mono ?_
  rw [unhide HWM]
  rintro e w3 ⟨rfl, hb3⟩
  simp only [rw_]
  have hG3 : Gr w3 s w3.heap.size w1.heap.size := by
    have h := hG2.below hb3 (Nat.le_refl _)
    refine ⟨Nat.lt_of_lt_of_le h.lt hb3.size, h.start, fun f hf => ?_, h.nils⟩
    obtain ⟨p, n, j, q1, q2, q3, q4⟩ := h.rules f hf
    exact ⟨p, n, j, q1, q2, q3, EA.frame (fun _ _ => rfl) (fun b hb => Nat.lt_of_lt_of_le hb hb3.size) n n p _ (Nat.le_refl _) q4⟩
  have hn0 : ¬ (hh : Int) < 0 := by omega
  have hn1 : (hh : Int) ≤ (h : Int) := by omega
  have hbel3 : Below w.heap.size w w3 := (hb1.trans (hb2.mono hb1.size)).trans (hb3.mono (Nat.le_trans hb1.size hb2.size))
  clear hb1 hb2 hb3 hG2
  go_wp2_with fail
  refine (lows_any (unhide HG).small _ hG3 (Nat.le_refl _)).mono ?_
  rintro e w4 ⟨rfl, hb4⟩
  have hG4 : Gr w4 s w4.heap.size w1.heap.size := by
    have h := hG3.below hb4 (Nat.le_refl _)
    refine ⟨Nat.lt_of_lt_of_le h.lt hb4.size, h.start, fun f hf => ?_, h.nils⟩
    obtain ⟨p, n, j, q1, q2, q3, q4⟩ := h.rules f hf
    exact ⟨p, n, j, q1, q2, q3, EA.frame (fun _ _ => rfl) (fun b hb => Nat.lt_of_lt_of_le hb hb4.size) n n p _ (Nat.le_refl _) q4⟩
  have k1 := Rm.start (c := t) (m := (m : Int)) 101 hG4
  have hbel : Below w.heap.size w w4 := hbel3.trans (hb4.mono hbel3.size)
  obtain ⟨MV, hMV⟩ : ∃ MV, MV = (rms w1.heap.size (lowsF s 27) m t).toArray := ⟨_, rfl⟩
  rw [← hMV] at k1
  generalize hGV : (nms (lowsF s 27)).toArray = GV
  have HBU : Hid (Tryz.prog.built 101 [(0, .pointer (some ⟨w1.heap.size, 0, none⟩)), (1, .agg GV), (2, .int .i64 m), (3, .string t)] = some MV) := hide (by rw [← hGV, hMV]; exact Tryz.builtRr _ _ _ _)
  have K1 := hide k1
  have HBEL := hide hbel
  have hst := hG4.start
  have hzz : w1.heap.size < w4.heap.size := hG4.lt
  clear hGV hMV hG3 hG4 hb4 k1 hbel hbel3
  go_wp2_with (first | (refine wpList_buildTo rfl 101 _ rfl _ rfl MV (by rw [Array.toList_map]; exact unhide HBU) ?_) | fail)
  have hB5 : Below w.heap.size w (w4.alloc (.cells MV 101)) := (unhide HBEL).alloc (unhide HBEL).size _
  have hlt5 : w4.heap.size < (w4.alloc (.cells MV 101)).heap.size := by simp
  have hw4 := (unhide HBEL).size
  generalize w4.alloc (.cells MV 101) = w5 at *
  generalize w4.heap.size = b at *
  refine (rrfac_any (unhide HV) (rrexpr_all (b := b) (B := b) (g := w1.heap.size) (unhide HV) (t.size + 1)) (h : Int) (.pointer none) 0 h 0 t.size hh [] _ (unhide K1) (.inl ⟨unhide hcO, rfl⟩) rfl hl2 (unhide HFi) (unhide HPF) hhh (by simp)).mono ?_
  rintro e w6 ⟨rfl, hk6, hb6, _⟩
  have hbel6 : Below w.heap.size w w6 := hB5.trans (hb6.below hw4 (by omega))
  have hk6' : Rm w6 b s t m b w1.heap.size t.size TT := by rw [← unhide HTT]; simpa [told] using hk6
  have c30 := hk6'.out
  have HB6 := hide hbel6
  clear hk6 hk6' hb6 hbel6
  go_wp2
  go_ret2
  exact ⟨rfl, unhide HB6⟩

set_option maxHeartbeats 400000 in
set_option maxRecDepth 1000000 in
theorem refRecall_any {s t : ByteArray} (h m : Int) (w : World) (hs : s.size ≤ maxLen) (ht : t.size ≤ maxLen) :
    Calls Tryz.prog 35 #[.string s, .string t, .int .i64 h, .int .i64 m] w fun e w' => e = .returned (.tuple #[.string (rcl s t h m).1, .int .i64 (rcl s t h m).2]) ∧ Below w.heap.size w w' := by
  by_cases he : (hgt s t).2 = 0
  case neg =>
    have e : rcl s t h m = (⟨#[]⟩, (hgt s t).2) := by unfold rcl; rw [if_pos he]
    rw [e]
    have he' : ((hgt s t).2 != 0) = true := by simp [he]
    generalize hH : hgt s t = HH at *
    have HHH := hide hH
    clear e he hH
    go_enter Tryz.func35, Tryz.ntmps35
    go_wp2_with fail
    refine (refHeight_any _ _ _ hs ht).mono ?_
    rw [unhide HHH]
    rintro e w1 ⟨rfl, hb1⟩
    go_wp2
    go_ret2
    exact ⟨rfl, hb1⟩
  case pos =>
    have hk : (chk s).1 = 0 := by
      by_cases e : (chk s).1 = 0
      · exact e
      · rw [hgt_ref_bad e] at he; exact absurd he e
    obtain ⟨hh, hw0⟩ : ∃ hh, whole s t 0 = some hh := by
      cases hw : whole s t 0 with
      | none => rw [hgt_ref_none hk hw] at he; simp at he
      | some hh => exact ⟨hh, rfl⟩
    have hH := hgt_ref_some hk hw0
    have e : rcl s t h m = if ¬ (1 ≤ h ∧ h ≤ 9 ∧ 1 ≤ m ∧ m ≤ 5) then (⟨#[]⟩, 9) else if h < (hh : Int) ∨ m < (mx t : Int) then (⟨#[]⟩, 10) else (strOfNums (told s t h.toNat m.toNat), 0) := by
      unfold rcl; rw [hH, if_neg (by simp)]
    rw [e]
    have ht2 := (rwhole_parts hw0).1
    by_cases hl : 1 ≤ h ∧ h ≤ 9 ∧ 1 ≤ m ∧ m ≤ 5
    · rw [if_neg (by simpa using hl)]
      obtain ⟨k, rfl⟩ : ∃ k : Nat, h = k := ⟨h.toNat, by omega⟩
      obtain ⟨j, rfl⟩ : ∃ j : Nat, m = j := ⟨m.toNat, by omega⟩
      by_cases hb : (k : Int) < (hh : Int) ∨ (j : Int) < (mx t : Int)
      · rw [if_pos hb]
        have g := gram_of hk
        have hN := start_name g
        have hF : isF s 0 = true := by unfold isF; rw [hN]; simp
        have HHH := hide hH
        have HG := hide g
        have HN := hide hN
        have hwm : whole s t j = none ∨ (whole s t j = some hh ∧ (k : Int) < (hh : Int)) := by
          rcases whole_most (most := (j : Int)) (by omega) hF hw0 with ⟨e1, e2⟩ | ⟨e1, _⟩
          · have := (mx_le t (most := (j : Int)) (by omega)).2 e2
            exact .inr ⟨e1, by omega⟩
          · exact .inl e1
        obtain ⟨hl1, hl2, hl3, hl4⟩ := hl
        rcases hwm with hwm | ⟨hwm, hgt⟩
        · have HWM := hide hwm
          clear e hw0 hH g hN hF hwm hb he hk
          go_enter Tryz.func35, Tryz.ntmps35
          go_wp2_with fail
          refine (refHeight_any _ _ _ hs ht).mono ?_
          rw [unhide HHH]
          rintro e w1 ⟨rfl, hb1⟩
          go_wp2_with fail
          refine (read_gram _ (unhide HG) _).mono ?_
          rintro e w2 ⟨rfl, hG2, hb2⟩
          go_wp2_with fail
          refine (rwhole_any _ _ hG2 (Nat.le_refl _) (unhide HG).small ht (unhide HN)).mono ?_
          rw [unhide HWM]
          rintro e w3 ⟨rfl, hb3⟩
          simp only [rw_]
          go_wp2
          go_ret2
          exact ⟨rfl, (hb1.trans (hb2.mono hb1.size)).trans (hb3.mono (Nat.le_trans hb1.size hb2.size))⟩
        · have HWM := hide hwm
          have hn0 : ¬ (hh : Int) < 0 := by omega
          clear e hw0 hH g hN hF hwm hb he hk
          go_enter Tryz.func35, Tryz.ntmps35
          go_wp2_with fail
          refine (refHeight_any _ _ _ hs ht).mono ?_
          rw [unhide HHH]
          rintro e w1 ⟨rfl, hb1⟩
          go_wp2_with fail
          refine (read_gram _ (unhide HG) _).mono ?_
          rintro e w2 ⟨rfl, hG2, hb2⟩
          go_wp2_with fail
          refine (rwhole_any _ _ hG2 (Nat.le_refl _) (unhide HG).small ht (unhide HN)).mono ?_
          rw [unhide HWM]
          rintro e w3 ⟨rfl, hb3⟩
          simp only [rw_]
          go_wp2
          go_ret2
          exact ⟨rfl, (hb1.trans (hb2.mono hb1.size)).trans (hb3.mono (Nat.le_trans hb1.size hb2.size))⟩
      · rw [if_neg hb]
        simp only [Int.toNat_natCast]
        exact refRecall_ok hk k j hh w hs hw0 (by omega) (by omega) (by omega) (by omega)
    · rw [if_pos hl]
      have HHH := hide hH
      clear e hw0 hH he hk
      go_enter Tryz.func35, Tryz.ntmps35
      go_wp2_with fail
      refine (refHeight_any _ _ _ hs ht).mono ?_
      rw [unhide HHH]
      rintro e w1 ⟨rfl, hb1⟩
      go_wp2_with fail
      all_goals first
        | (go_ret2; exact ⟨rfl, hb1⟩)
        | (exfalso; simp_all; omega)
end Go.Proofs.YtnfaiaoipeholaaGreat
