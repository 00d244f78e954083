/- The program's maker: an expression; all depths. -/
import Derived.Test.YtnfaiaoipeholaaPMaker
namespace Go.Proofs.Ytnfaiaoipeholaa
open Go.RowKit
section
variable {b : Nat} {s c : ByteArray} {m : Nat} {P : Nat → Int}

theorem filter_eq (v : Ev s c m P) {l : Nat} (hl : l ≤ 9) (x k : Nat) : ((List.range k).filter fun j => altFit s (nmP P (l : Nat)) (expFit s (nmP P (l : Nat))) (fe s ((sts s x).getD j 0)).1) = ((List.range k).filter fun j => altFit s (nFit s l) (expFit s (nFit s l)) (fe s ((sts s x).getD j 0)).1) := by
  congr 1; funext j
  exact altFit_cong (fun i hi => v.fit l i hl hi) _
theorem ways_eq (v : Ev s c m P) {l : Nat} (hl : l ≤ 9) (x : Nat) : wayK s (nmP P (l : Nat)) x (sts s x).length = (fitL s l x).length := by
  unfold wayK fitL; rw [filter_eq v hl]

set_option maxHeartbeats 1000000 in
set_option maxRecDepth 1000000 in
theorem makeExpression_any (v : Ev s c m P) {n : Nat} (hn : n ≤ 5000) (hE : SaidM b s c m P n) : SaidM b s c m P (n + 1) := by
  intro q lq x l a T w hk hq hl hx hl9 h10 hfit hd hT ha
  subst hq hl
  have hs := v.gram.small
  have c0 := hk.gd.gram
  have hX : SaidG s m P (l : Nat) (s.size + 1) := expressionFits_all v.ten hs _
  have hw1 : wayK s (nmP P (l : Nat)) x (min 10 (sts s x).length) = (fitL s l x).length := by rw [Nat.min_eq_right h10, ways_eq v hl9]
  have hLb := fitL_len s l x
  have hL0 := fitL_ne hfit
  have hWL := wayN_lt c a _ hL0
  have hwa := wayA_le a (fitL s l x).length
  have hg : ((List.range (sts s x).length).filter fun j => altFit s (nmP P (l : Nat)) (expFit s (nmP P (l : Nat))) (fe s ((sts s x).getD j 0)).1).getD (wayN c a (fitL s l x).length) 0 = gone s c l x a := by
    rw [filter_eq v hl9]; rfl
  have hWK : wayN c a (fitL s l x).length < wayK s (nmP P (l : Nat)) x (sts s x).length := by rw [ways_eq v hl9]; exact hWL
  obtain ⟨hG1, hG2⟩ := fitL_mem (gone_mem (c := c) (a := a) hfit)
  have hap : ap s (gone s c l x a) x = some ((sts s x).getD (gone s c l x a) 0) := by
    rw [sts_ap, List.getD_eq_getElem?_getD, List.getElem?_eq_getElem hG1]; rfl
  have hy := ap_bd hap
  generalize hR : genE s c m (n + 1) l x a = R
  unfold genE at hR
  generalize gone s c l x a = G at *
  generalize (sts s x).getD G 0 = y at *
  generalize hLL : (fitL s l x).length = L at *
  generalize hWW : wayN c a L = W at *
  generalize hAA : wayA a L = A at *
  have HR := hide hR
  have HG2 := hide hG2
  have HW1 := hide hw1
  have HWW := hide hWW
  have HAA := hide hAA
  have HWK := hide hWK
  have HG := hide hg
  have HAP : Hid (pl (ap s G x) = (y : Int)) := hide (by rw [hap]; rfl)
  have H10 := hide h10
  have HK := hide hk
  have hG9 : G ≤ 9 := by omega
  have hL10 : L ≤ 10 := by omega
  clear hR hG2 hw1 hWW hAA hWK hg hap h10 hk hfit hLL hLb
  go_enter Try.func97, Try.ntmps97
  go_wp2_with (first
    | (go_at_call 96; refine (alternatives_any v.ten hs hX _ _ x 10 b _ (unhide HK).gd rfl (by omega) rfl (by omega) (by omega)).mono ?_; rw [unhide HW1]; rintro e w' ⟨rfl, hw⟩; replace hw := hw.symm; subst hw)
    | (go_at_call 98; refine (choose_any (unhide HK) v.hc (by omega) _ L rfl (by omega)).mono ?_; rw [unhide HWW, unhide HAA]; rintro e w1 ⟨rfl, hk1, hb1⟩; replace hk1 := hide hk1; replace hb1 := hide hb1; have c1 := (unhide hk1).gd.gram)
    | (go_at_call 120; refine (alternative_way v.ten hs _ _ x W b _ (unhide hk1).gd rfl hx rfl (unhide H10) (unhide HWK)).mono ?_; rw [unhide HG]; rintro e w' ⟨rfl, hw⟩; replace hw := hw.symm; subst hw)
    | (go_at_call 64; refine (write_any (unhide hk1) (by omega) _).mono ?_; rintro e w2 ⟨rfl, hk2, hb2⟩; replace hk2 := hide hk2; replace hb2 := hide hb2; have c2 := (unhide hk2).gd.gram)
    | (go_at_call 113; refine (alternative_any s _ _ x G _ hs rfl rfl (by omega) (by omega)).mono ?_; rw [unhide HAP]; rintro e w' ⟨rfl, hw⟩; replace hw := hw.symm; subst hw))
  go_loopw [9] (fun fv wr => ∃ (k a1 : Nat) (T1 : List Int) (p1 : Nat × List Int), fv = .int .i64 k ∧ x ≤ k ∧ k ≤ 302 ∧ Hid (Mk wr b s c m P a1 T1) ∧ Hid (Below b w wr) ∧ Hid (Ends T p1 a1 T1) ∧ Hid (R = ((facsG (genF s c m (genE s c m n) l) (fe s k).1 p1.1).1, p1.2 ++ (facsG (genF s c m (genE s c m n) l) (fe s k).1 p1.1).2)) ∧ Hid (∀ f ∈ (fe s k).1, facFit s (nFit s l) (expFit s (nFit s l)) f = true) ∧ a1 ≤ T1.length ∧ T1.length ≤ 2004 + n) (fun fv _ => s.size - (intOf fv).toNat)
  case atStart => exact ⟨y, A, T ++ [48 + (G : Int)], (A, [48 + (G : Int)]), by go_num, by omega, by omega, hk2, hide ((unhide hb1).trans (unhide hb2)), hide (Ends.put T [48 + (G : Int)] A), hide (unhide HR).symm, HG2, by simp; omega, by simp; omega⟩
  case round =>
    obtain ⟨k, a1, T1, p1, rfl, hxk, hk302, hM, hB, hEn, hRe, hFi, ha1, hT1⟩ := hrel
    have c3 := (unhide hM).gd.gram
    by_cases hbig : 2000 < T1.length
    · have hbig' : Hid (decide (2000 < T1.length) = true) := hide (by simp [hbig])
      have HE : Hid (Ends T R a1 T1) := hide (by rw [unhide hRe]; exact (unhide hEn).cut hbig _ _)
      go_wp2_with (go_at_call 38; refine (isBig_any (unhide hM) (by omega)).mono ?_; rw [unhide hbig']; rintro e w' ⟨rfl, hw⟩; replace hw := hw.symm; subst hw)
      go_end0
      exact ⟨rfl, a1, T1, unhide hM, unhide hB, unhide HE, ha1, by omega⟩
    · have hbig' : Hid (decide (2000 < T1.length) = false) := hide (by simp [hbig])
      cases h1 : isF s k
      · have HE : Hid (Ends T R a1 T1) := hide (by
          have h := unhide hRe
          rw [fe_no h1] at h
          have e : R = p1 := by rw [h]; simp [facsG]
          rw [e]; exact unhide hEn)
        have h1' := hide h1; clear h1
        go_wp2_with (first
          | (go_at_call 38; refine (isBig_any (unhide hM) (by omega)).mono ?_; rw [unhide hbig']; rintro e w' ⟨rfl, hw⟩; replace hw := hw.symm; subst hw)
          | (go_at_call 115; refine (isFactor_any _ _ k _ hs rfl).mono ?_; rw [unhide h1']; rintro e w' ⟨rfl, hw⟩; replace hw := hw.symm; subst hw))
        go_end0
        exact ⟨rfl, a1, T1, unhide hM, unhide hB, unhide HE, ha1, by omega⟩
      · have hbb := bh_bd h1
        have hkl := isF_lt h1
        have hff : Hid (facFit s (nFit s l) (expFit s (nFit s l)) k = true) := hide (unhide hFi k (by rw [fe_yes h1]; simp))
        have hFi' : Hid (∀ f ∈ (fe s (bh s k)).1, facFit s (nFit s l) (expFit s (nFit s l)) f = true) := hide (fun f hf => unhide hFi f (by rw [fe_yes h1]; simp [hf]))
        have hRe' : Hid (R = ((facsG (genF s c m (genE s c m n) l) (fe s (bh s k)).1 (genF s c m (genE s c m n) l k p1.1).1).1, (p1.2 ++ (genF s c m (genE s c m n) l k p1.1).2) ++ (facsG (genF s c m (genE s c m n) l) (fe s (bh s k)).1 (genF s c m (genE s c m n) l k p1.1).1).2)) := hide (by
          rw [unhide hRe, fe_yes h1]; simp [facsG])
        have h1' := hide h1; clear h1
        go_wp2_with (first
          | (go_at_call 38; refine (isBig_any (unhide hM) (by omega)).mono ?_; rw [unhide hbig']; rintro e w' ⟨rfl, hw⟩; replace hw := hw.symm; subst hw)
          | (go_at_call 115; refine (isFactor_any _ _ k _ hs rfl).mono ?_; rw [unhide h1']; rintro e w' ⟨rfl, hw⟩; replace hw := hw.symm; subst hw)
          | (go_at_call 37; refine (makeFactor_any v hn hE _ _ x k l a1 _ _ (unhide hM) rfl rfl hl9 (unhide h1') (unhide hff) hxk hd (by omega) ha1).mono ?_; rintro e w4 ⟨rfl, a4, T4, hk4, hb4, he4, ha4, hT4⟩; replace hk4 := hide hk4; replace hb4 := hide hb4; replace he4 := hide he4; have c4 := (unhide hk4).gd.gram)
          | (go_at_call 116; refine (behind_any _ _ k _ hs rfl (by omega)).mono ?_; rintro e w' ⟨rfl, hw⟩; replace hw := hw.symm; subst hw))
        go_roundw
        case rel => exact ⟨bh s k, a4, T4, _, rfl, by omega, by omega, hk4, hide ((unhide hB).trans (unhide hb4)), hide ((unhide hEn).seq (q := genF s c m (genE s c m n) l k) (unhide he4)), hRe', hFi', ha4, hT4⟩
        case measure => simp [intOf]; omega
theorem makeExpression_all (v : Ev s c m P) : ∀ n, n ≤ 5000 → SaidM b s c m P n
  | 0, _ => fun _ _ _ _ _ _ _ _ _ _ _ _ _ _ hd _ _ => by omega
  | n + 1, hn => makeExpression_any v (by omega) (makeExpression_all v n (by omega))
end
end Go.Proofs.Ytnfaiaoipeholaa
