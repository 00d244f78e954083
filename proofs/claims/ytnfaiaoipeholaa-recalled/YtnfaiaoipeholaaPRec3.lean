/- The program's recaller: an expression; all depths. -/
import Derived.Test.YtnfaiaoipeholaaPRec2
namespace Go.Proofs.Ytnfaiaoipeholaa
open Go.RowKit
section
variable {b : Nat} {s t : ByteArray} {m : Nat} {P : Nat → Int}

set_option maxHeartbeats 300000 in
set_option maxRecDepth 1000000 in
theorem recallExpression_any (v : Ev s t m P) (ht : t.size ≤ 2000) (hgd : Good t m 0 t.size) {n : Nat} (hE : SaidQ b s t m P n) : SaidQ b s t m P (n + 1) := by
  intro q lq x l i j h D w hk hq hl hx hl9 h10 hp hhl hD
  subst hq hl
  have hs := v.gram.small
  have hX : SaidG s m P (l : Nat) (s.size + 1) := expressionFits_all v.ten hs _
  obtain ⟨k, a, hbk, hk9, hka, hpf⟩ := pE_parts hp
  have hmem := pE_mem hka hpf hhl
  have hklen := hmem.1
  clear hmem
  have hit : i < t.size := bt_lt (by omega)
  have hfwd := pE_fwd s t 0 (n + 1) x i j h hp
  have hw1 : wayK s (nmP P (l : Nat)) x (min 10 (sts s x).length) = (fitL s l x).length := by rw [Nat.min_eq_right h10, ways_eq v hl9]
  have hw2 : wayK s (nmP P (l : Nat)) x (min k (sts s x).length) = wayIx s l x k := by rw [Nat.min_eq_left (by omega), wayIx_eq v hl9]
  have hwle := wayIx_le s l x k
  have hLle := fitL_len s l x
  have hya : x ≤ a ∧ a ≤ 302 := by have := ap_bd hka; omega
  obtain ⟨hxa, ha302⟩ := hya
  have hL10 : (fitL s l x).length ≤ 10 := by omega
  obtain ⟨hij, hjt, _⟩ := hfwd
  have HGD := hide hgd
  generalize hR : D ++ dE s t m (n + 1) l x i = R
  unfold dE at hR
  rw [show (bt t i - 48).toNat = k by omega, hka] at hR
  simp only at hR
  have c28 := hk.chs
  have c29 := hk.tak
  have f29 := hk.tkf
  have hdl := dgt_len (fitL s l x).length (wayIx s l x k)
  generalize (fitL s l x).length = L at *
  generalize wayIx s l x k = W at *
  have hcD : Hid (cD (48 + (k : Int)) = true) := hide (by simp [cD]; omega)
  have HBK := hide hbk
  have HW1 := hide hw1
  have HW2 := hide hw2
  have HAP : Hid (pl (ap s k x) = (a : Int)) := hide (by rw [hka]; rfl)
  have HR := hide hR
  have HPF := hide hpf
  have HT : Hid (Mk (w.setCell ⟨b, 29, none⟩ (.int .i64 ((i : Int) + 1))).drew b s t m P (i + 1) D) := hide (by
    have h := (hk.take (i + 1)).drew
    rw [show ((i + 1 : Nat) : Int) = (i : Int) + 1 by omega] at h; exact h)
  have HBs : Hid (Below b w (w.setCell ⟨b, 29, none⟩ (.int .i64 ((i : Int) + 1))).drew) := hide (((Below.refl _ _).setCell (p := ⟨b, 29, none⟩) (Nat.le_refl _) _).drew)
  have ht' : t.size ≤ maxLen := by unfold maxLen; omega
  have HX := hide hX
  clear hR hka hpf hw1 hw2 hp hk h10 hklen hbk hLle hgd hX
  go_enter Try.func93, Try.ntmps93
  go_wp2_with fail
  go_region_held (fun w' => w'.cell? ⟨b, 28, none⟩ = some (.string t) ∧ w'.cell? ⟨b, 29, none⟩ = some (.int .i64 (i : Int))) (exact ⟨c28, c29⟩) (first | (go_at_call 52; refine (at_any _ _ _ ht').mono ?_; rw [unhide HBK]; rintro e w' ⟨rfl, rfl⟩))
  have c29' : w.drew.cell? ⟨b, 29, none⟩ = some (.int .i64 (i : Int)) := c29
  have f29' : w.drew.frozen? ⟨b, 29, none⟩ = false := f29
  clear c28 c29 f29
  have hk48 : (48 + (k : Int)) - 48 = k := by omega
  go_wp2_with (first
    | (go_at_call 61; refine (isDigit_any _ _).mono ?_; rw [unhide hcD]; rintro e w' ⟨rfl, hw⟩; replace hw := hw.symm; subst hw)
    | fail)
  have hc0 := (unhide HT).gd.gram
  generalize (w.setCell ⟨b, 29, none⟩ (.int .i64 ((i : Int) + 1))).drew = w1 at *
  clear c29' f29' hk48
  refine (alternatives_any v.ten hs (unhide HX) _ _ x 10 b _ (unhide HT).gd rfl (by omega) rfl (by omega) (by omega)).mono ?_
  rw [unhide HW1]
  rintro e w' ⟨rfl, hw⟩
  replace hw := hw.symm; subst hw
  go_wp2_with fail
  refine (alternatives_any v.ten hs (unhide HX) _ _ x k b _ (unhide HT).gd rfl (by omega) rfl (by omega) (by omega)).mono ?_
  rw [unhide HW2]
  rintro e w' ⟨rfl, hw⟩
  replace hw := hw.symm; subst hw
  go_wp2_with fail
  refine (note_any (unhide HT) (by omega) _ _ L W rfl rfl (by omega) (by omega)).mono ?_
  rintro e w2 ⟨rfl, hk2, hb2⟩
  have c2 := hk2.gd.gram
  have HK2 := hide hk2
  have HB2 := hide ((unhide HBs).trans hb2)
  have hD2 : (D ++ dgt L W).length ≤ i + 1 := by simp only [List.length_append]; omega
  generalize hDD : D ++ dgt L W = DD at *
  have HRR : Hid (R = DD ++ dFs (pF s t 0 (pE s t 0 n)) (dF s t m (pE s t 0 n) (dE s t m n) l) (fe s a).1 (i + 1)) := hide (by rw [← unhide HR, ← hDD]; simp)
  clear hk2 hb2 hdl hDD HT HBs HR hc0
  go_wp2_with (first
    | (go_at_call 113; refine (alternative_any s _ _ x k _ hs rfl rfl (by omega) (by omega)).mono ?_; rw [unhide HAP]; rintro e w' ⟨rfl, hw⟩; replace hw := hw.symm; subst hw)
    | fail)
  go_loopw [10] (fun fv wr => ∃ (k1 i1 top : Nat) (D1 : List Int), fv = .int .i64 k1 ∧ x ≤ k1 ∧ k1 ≤ 302 ∧ Hid (Mk wr b s t m P i1 D1) ∧ Hid (Below b w wr) ∧ Hid (pFs (pF s t 0 (pE s t 0 n)) (fe s k1).1 i1 top = some (j, h)) ∧ Hid (R = D1 ++ dFs (pF s t 0 (pE s t 0 n)) (dF s t m (pE s t 0 n) (dE s t m n) l) (fe s k1).1 i1) ∧ D1.length ≤ i1) (fun fv _ => s.size - (intOf fv).toNat)
  case atStart => exact ⟨a, i + 1, 0, DD, rfl, hxa, ha302, HK2, HB2, HPF, HRR, hD2⟩
  case round =>
    obtain ⟨k1, i1, top, D1, rfl, hxk, hk302, hM, hB, hPp, hRe, hD1⟩ := hrel
    have c3 := (unhide hM).gd.gram
    cases h1 : isF s k1
    · have hend : i1 = j ∧ D1 = R := by
        have h := unhide hRe
        have h' := unhide hPp
        rw [fe_no h1] at h h'
        simp only [pFs, Option.some.injEq, Prod.mk.injEq] at h'
        exact ⟨h'.1, by rw [h]; simp [dFs]⟩
      obtain ⟨he1, he2⟩ := hend
      subst he1 he2
      have h1' := hide h1; clear h1
      go_wp2_with (go_at_call 115; refine (isFactor_any _ _ k1 _ hs rfl).mono ?_; rw [unhide h1']; rintro e w' ⟨rfl, hw⟩; replace hw := hw.symm; subst hw)
      go_end0
      exact ⟨rfl, unhide hM, unhide hB, hD1⟩
    · have hbb := bh_bd h1
      have hkl := isF_lt h1
      have hP := unhide hPp
      have hR2 := unhide hRe
      rw [fe_yes h1] at hP hR2
      have htop := (pFs_parts _ _ _ _ _ hP).2 k1 (by simp)
      cases hq1 : pF s t 0 (pE s t 0 n) k1 i1 with
      | none => unfold pFs at hP; rw [hq1] at hP; cases hP
      | some q1 =>
        obtain ⟨a1, kk⟩ := q1
        have hP2 : pFs (pF s t 0 (pE s t 0 n)) (fe s (bh s k1)).1 a1 (max top kk) = some (j, h) := by unfold pFs at hP; rw [hq1] at hP; exact hP
        have hkk : kk ≤ l := by have := (pFs_parts _ _ _ _ _ hP2).1; omega
        have HR2 : Hid (R = (D1 ++ dF s t m (pE s t 0 n) (dE s t m n) l k1 i1) ++ dFs (pF s t 0 (pE s t 0 n)) (dF s t m (pE s t 0 n) (dE s t m n) l) (fe s (bh s k1)).1 a1) := hide (by
          rw [hR2]; simp only [dFs, hq1]; simp)
        have HP2 := hide hP2
        have HQ1 := hide hq1
        have h1' := hide h1
        clear h1 hP hR2 htop hq1 hP2 hPp hRe
        go_wp2_with (first
          | (go_at_call 115; refine (isFactor_any _ _ k1 _ hs rfl).mono ?_; rw [unhide h1']; rintro e w' ⟨rfl, hw⟩; replace hw := hw.symm; subst hw)
          | (go_at_call 34; refine (recallFactor_any v ht (unhide HGD) hE _ _ k1 l i1 a1 kk D1 _ (unhide hM) rfl rfl hl9 (unhide h1') (unhide HQ1) hkk hD1).mono ?_; rintro e w4 ⟨rfl, hk4, hb4, hD4⟩; replace hk4 := hide hk4; replace hb4 := hide hb4; have c4 := (unhide hk4).gd.gram)
          | (go_at_call 116; refine (behind_any _ _ k1 _ hs rfl (by omega)).mono ?_; rintro e w' ⟨rfl, hw⟩; replace hw := hw.symm; subst hw))
        go_roundw
        case rel => exact ⟨bh s k1, a1, max top kk, _, rfl, by omega, by omega, hk4, hide ((unhide hB).trans (unhide hb4)), HP2, HR2, hD4⟩
        case measure => simp [intOf]; omega
theorem recallExpression_all (v : Ev s t m P) (ht : t.size ≤ 2000) (hgd : Good t m 0 t.size) : ∀ n, SaidQ b s t m P n
  | 0 => fun _ _ _ _ _ _ _ _ _ _ _ _ _ _ _ hp _ _ => by cases hp
  | n + 1 => recallExpression_any v ht hgd (recallExpression_all v ht hgd n)
end
end Go.Proofs.Ytnfaiaoipeholaa
