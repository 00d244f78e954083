/- PRec3 PRecT PRecA RecMath4 -/
import Derived.Test.YtnfaiaoipeholaaGreatDoorAa17
import Derived.Test.YtnfaiaoipeholaaGreatDoorAa11
namespace Go.Proofs.YtnfaiaoipeholaaGreatDoor
open Go.RowKit
section
variable {b : Nat} {s t : ByteArray} {m : Nat} {P : Nat → Int}

set_option maxHeartbeats 300000 in
set_option maxRecDepth 1000000 in
theorem recallExpression_any (v : Ev s t m P) (ht : t.size ≤ 2000) (hgd : Good t m 0 t.size) {n : Nat} (hE : SaidQ b s t m P n) : SaidQ b s t m P (n + 1) := by
  intro q lq x l i j h D w hk hq hl hx hl9 h10 hp hhl hD
  subst hq hl
  have hs := v.gram.small
  have hX : SaidG s m P (l : Nat) (s.size + 1) := expressionFits_all v.ten hs _
  obtain ⟨k, a, hbk, hk9, hka, hpf⟩ := pE_parts hp
  have hmem := pE_mem hka hpf hhl
  have hklen := hmem.1
  clear hmem
  have hit : i < t.size := bt_lt (by omega)
  have hfwd := pE_fwd s t 0 (n + 1) x i j h hp
  have hw1 : wayK s (nmP P (l : Nat)) x (min 10 (sts s x).length) = (fitL s l x).length := by rw [Nat.min_eq_right h10, ways_eq v hl9]
  have hw2 : wayK s (nmP P (l : Nat)) x (min k (sts s x).length) = wayIx s l x k := by rw [Nat.min_eq_left (by omega), wayIx_eq v hl9]
  have hwle := wayIx_le s l x k
  have hLle := fitL_len s l x
  have hya : x ≤ a ∧ a ≤ 302 := by have := ap_bd hka; omega
  obtain ⟨hxa, ha302⟩ := hya
  have hL10 : (fitL s l x).length ≤ 10 := by omega
  obtain ⟨hij, hjt, _⟩ := hfwd
  have HGD := hide hgd
  generalize hR : D ++ dE s t m (n + 1) l x i = R
  unfold dE at hR
  rw [show (bt t i - 48).toNat = k by omega, hka] at hR
  simp only at hR
  have c28 := hk.chs
  have c29 := hk.tak
  have f29 := hk.tkf
  have hdl := dgt_len (fitL s l x).length (wayIx s l x k)
  generalize (fitL s l x).length = L at *
  generalize wayIx s l x k = W at *
  have hcD : Hid (cD (48 + (k : Int)) = true) := hide (by simp [cD]; omega)
  have HBK := hide hbk
  have HW1 := hide hw1
  have HW2 := hide hw2
  have HAP : Hid (pl (ap s k x) = (a : Int)) := hide (by rw [hka]; rfl)
  have HR := hide hR
  have HPF := hide hpf
  have HT : Hid (Mk (w.setCell ⟨b, 29, none⟩ (.int .i64 ((i : Int) + 1))).drew b s t m P (i + 1) D) := hide (by
    have h := (hk.take (i + 1)).drew
    rw [show ((i + 1 : Nat) : Int) = (i : Int) + 1 by omega] at h; exact h)
  have HBs : Hid (Below b w (w.setCell ⟨b, 29, none⟩ (.int .i64 ((i : Int) + 1))).drew) := hide (((Below.refl _ _).setCell (p := ⟨b, 29, none⟩) (Nat.le_refl _) _).drew)
  have ht' : t.size ≤ maxLen := by unfold maxLen; omega
  have HX := hide hX
  clear hR hka hpf hw1 hw2 hp hk h10 hklen hbk hLle hgd hX
  go_enter Tryz.func141, Tryz.ntmps141
  go_wp2_with fail
  go_region_held (fun w' => w'.cell? ⟨b, 28, none⟩ = some (.string t) ∧ w'.cell? ⟨b, 29, none⟩ = some (.int .i64 (i : Int))) (exact ⟨c28, c29⟩) (first | (go_at_call 87; refine (at_any _ _ _ ht').mono ?_; rw [unhide HBK]; rintro e w' ⟨rfl, rfl⟩))
  have c29' : w.drew.cell? ⟨b, 29, none⟩ = some (.int .i64 (i : Int)) := c29
  have f29' : w.drew.frozen? ⟨b, 29, none⟩ = false := f29
  clear c28 c29 f29
  have hk48 : (48 + (k : Int)) - 48 = k := by omega
  go_wp2_with (first
    | (go_at_call 90; refine (isDigit_any _ _).mono ?_; rw [unhide hcD]; rintro e w' ⟨rfl, hw⟩; replace hw := hw.symm; subst hw)
    | fail)
  have hc0 := (unhide HT).gd.gram
  generalize (w.setCell ⟨b, 29, none⟩ (.int .i64 ((i : Int) + 1))).drew = w1 at *
  clear c29' f29' hk48
  refine (alternatives_any v.ten hs (unhide HX) _ _ x 10 b _ (unhide HT).gd rfl (by omega) rfl (by omega) (by omega)).mono ?_
  rw [unhide HW1]
  rintro e w' ⟨rfl, hw⟩
  replace hw := hw.symm; subst hw
  go_wp2_with fail
  refine (alternatives_any v.ten hs (unhide HX) _ _ x k b _ (unhide HT).gd rfl (by omega) rfl (by omega) (by omega)).mono ?_
  rw [unhide HW2]
  rintro e w' ⟨rfl, hw⟩
  replace hw := hw.symm; subst hw
  go_wp2_with fail
  refine (note_any (unhide HT) (by omega) _ _ L W rfl rfl (by omega) (by omega)).mono ?_
  rintro e w2 ⟨rfl, hk2, hb2⟩
  have c2 := hk2.gd.gram
  have HK2 := hide hk2
  have HB2 := hide ((unhide HBs).trans hb2)
  have hD2 : (D ++ dgt L W).length ≤ i + 1 := by simp only [List.length_append]; omega
  generalize hDD : D ++ dgt L W = DD at *
  have HRR : Hid (R = DD ++ dFs (pF s t 0 (pE s t 0 n)) (dF s t m (pE s t 0 n) (dE s t m n) l) (fe s a).1 (i + 1)) := hide (by rw [← unhide HR, ← hDD]; simp)
  clear hk2 hb2 hdl hDD HT HBs HR hc0
  go_wp2_with (first
    | (go_at_call 163; refine (alternative_any s _ _ x k _ hs rfl rfl (by omega) (by omega)).mono ?_; rw [unhide HAP]; rintro e w' ⟨rfl, hw⟩; replace hw := hw.symm; subst hw)
    | fail)
  go_loopw [10] (fun fv wr => ∃ (k1 i1 top : Nat) (D1 : List Int), fv = .int .i64 k1 ∧ x ≤ k1 ∧ k1 ≤ 302 ∧ Hid (Mk wr b s t m P i1 D1) ∧ Hid (Below b w wr) ∧ Hid (pFs (pF s t 0 (pE s t 0 n)) (fe s k1).1 i1 top = some (j, h)) ∧ Hid (R = D1 ++ dFs (pF s t 0 (pE s t 0 n)) (dF s t m (pE s t 0 n) (dE s t m n) l) (fe s k1).1 i1) ∧ D1.length ≤ i1) (fun fv _ => s.size - (intOf fv).toNat)
  case atStart => exact ⟨a, i + 1, 0, DD, rfl, hxa, ha302, HK2, HB2, HPF, HRR, hD2⟩
  case round =>
    obtain ⟨k1, i1, top, D1, rfl, hxk, hk302, hM, hB, hPp, hRe, hD1⟩ := hrel
    have c3 := (unhide hM).gd.gram
    cases h1 : isF s k1
    · have hend : i1 = j ∧ D1 = R := by
        have h := unhide hRe
        have h' := unhide hPp
        rw [fe_no h1] at h h'
        simp only [pFs, Option.some.injEq, Prod.mk.injEq] at h'
        exact ⟨h'.1, by rw [h]; simp [dFs]⟩
      obtain ⟨he1, he2⟩ := hend
      subst he1 he2
      have h1' := hide h1; clear h1
      go_wp2_with (go_at_call 168; refine (isFactor_any _ _ k1 _ hs rfl).mono ?_; rw [unhide h1']; rintro e w' ⟨rfl, hw⟩; replace hw := hw.symm; subst hw)
      go_end0
      exact ⟨rfl, unhide hM, unhide hB, hD1⟩
    · have hbb := bh_bd h1
      have hkl := isF_lt h1
      have hP := unhide hPp
      have hR2 := unhide hRe
      rw [fe_yes h1] at hP hR2
      have htop := (pFs_parts _ _ _ _ _ hP).2 k1 (by simp)
      cases hq1 : pF s t 0 (pE s t 0 n) k1 i1 with
      | none => unfold pFs at hP; rw [hq1] at hP; cases hP
      | some q1 =>
        obtain ⟨a1, kk⟩ := q1
        have hP2 : pFs (pF s t 0 (pE s t 0 n)) (fe s (bh s k1)).1 a1 (max top kk) = some (j, h) := by unfold pFs at hP; rw [hq1] at hP; exact hP
        have hkk : kk ≤ l := by have := (pFs_parts _ _ _ _ _ hP2).1; omega
        have HR2 : Hid (R = (D1 ++ dF s t m (pE s t 0 n) (dE s t m n) l k1 i1) ++ dFs (pF s t 0 (pE s t 0 n)) (dF s t m (pE s t 0 n) (dE s t m n) l) (fe s (bh s k1)).1 a1) := hide (by
          rw [hR2]; simp only [dFs, hq1]; simp)
        have HP2 := hide hP2
        have HQ1 := hide hq1
        have h1' := hide h1
        clear h1 hP hR2 htop hq1 hP2 hPp hRe
        go_wp2_with (first
          | (go_at_call 168; refine (isFactor_any _ _ k1 _ hs rfl).mono ?_; rw [unhide h1']; rintro e w' ⟨rfl, hw⟩; replace hw := hw.symm; subst hw)
          | (go_at_call 56; refine (recallFactor_any v ht (unhide HGD) hE _ _ k1 l i1 a1 kk D1 _ (unhide hM) rfl rfl hl9 (unhide h1') (unhide HQ1) hkk hD1).mono ?_; rintro e w4 ⟨rfl, hk4, hb4, hD4⟩; replace hk4 := hide hk4; replace hb4 := hide hb4; have c4 := (unhide hk4).gd.gram)
          | (go_at_call 169; refine (behind_any _ _ k1 _ hs rfl (by omega)).mono ?_; rintro e w' ⟨rfl, hw⟩; replace hw := hw.symm; subst hw))
        go_roundw
        case rel => exact ⟨bh s k1, a1, max top kk, _, rfl, by omega, by omega, hk4, hide ((unhide hB).trans (unhide hb4)), HP2, HR2, hD4⟩
        case measure => simp [intOf]; omega
theorem recallExpression_all (v : Ev s t m P) (ht : t.size ≤ 2000) (hgd : Good t m 0 t.size) : ∀ n, SaidQ b s t m P n
  | 0 => fun _ _ _ _ _ _ _ _ _ _ _ _ _ _ _ hp _ _ => by cases hp
  | n + 1 => recallExpression_any v ht hgd (recallExpression_all v ht hgd n)
end
end Go.Proofs.YtnfaiaoipeholaaGreatDoor

namespace Go.Proofs.YtnfaiaoipeholaaGreatDoor
open Go.RowKit
theorem Tryz.infoRec : (Tryz.prog.info? 90).map (·.size) = some 31 := by kernel_rfl
theorem Tryz.builtRec (s c : ByteArray) (m : Int) (P : Nat → Int) : Tryz.prog.built 90 [(0, .agg (gds s m P).toArray), (1, .string c)] = some (mks s c m P).toArray := by kernel_rfl
theorem conv_any {w : World} {b : Nat} {s c : ByteArray} {m : Int} {P : Nat → Int} {a : Nat} {T : List Int} (hk : Mk w b s c m P a T) :
    ∃ ao cap, w.cell? ⟨b, 30, none⟩ = some (.slice ao T.length cap) ∧ (convert 83 9 (.slice ao T.length cap)).run Tryz.prog w = .ok (.string (strOfNums T)) w := by
  obtain ⟨v, h1, h2⟩ := hk.tre
  rcases h2.2 with ⟨e, h0⟩ | ⟨g, cap, cur, e, _⟩
  · subst e
    have hT : T = [] := List.length_eq_zero_iff.1 h0
    subst hT
    refine ⟨none, 0, h1, ?_⟩
    have := run_convert_bytes_nil (P := Tryz.prog) (w := w) 83 5 Tryz.underlying83 Tryz.underlying5 0 0 9 Tryz.underlying9
    exact this
  · subst e
    refine ⟨some ⟨g, 0, none⟩, cap, h1, run_convert_bytes_arg _ 83 5 Tryz.underlying83 Tryz.underlying5 g 0 T.length cap T rfl (fun i hi => ?_) _ Tryz.underlying9⟩
    rw [Nat.zero_add, h2.cellAt i (by omega)]
    unfold byts
    rw [List.getElem?_map, List.getElem?_eq_getElem hi, List.getD_eq_getElem?_getD, List.getElem?_eq_getElem hi]; rfl
theorem whole_parts {s t : ByteArray} {hh : Nat} (e : whole s t 0 = some hh) : t.size ≤ 2000 ∧ pF s t 0 (pE s t 0 (t.size + 1)) 0 0 = some (t.size, hh) := by
  unfold whole at e
  split at e
  · cases e
  · refine ⟨by omega, ?_⟩
    cases hq : pF s t 0 (pE s t 0 (t.size + 1)) 0 0 with
    | none => rw [hq] at e; cases e
    | some q =>
      obtain ⟨j, k⟩ := q
      rw [hq] at e
      simp only at e
      split at e
      · rename_i hj
        simp only [Option.some.injEq] at e
        rw [hj, e]
      · cases e

set_option maxHeartbeats 1000000 in
set_option maxRecDepth 1000000 in
theorem pRecall_ok {s t : ByteArray} (g : Gram s) (ten : Ten s) (h m hh : Nat) (w : World) (hw0 : whole s t 0 = some hh) (hl : 1 ≤ h ∧ h ≤ 9) (hm : 1 ≤ m ∧ m ≤ 5) (hhh : hh ≤ h) (hmx : (mx t : Int) ≤ m) :
    Calls Tryz.prog 24 #[.string s, .string t, .int .i64 h, .int .i64 m] w fun e w' => e = .returned (.tuple #[.string (strOfNums (told s t h m)), .int .i64 0]) ∧ Below w.heap.size w w' := by
  obtain ⟨ht, hpf⟩ := whole_parts hw0
  have htm : t.size ≤ maxLen := by unfold maxLen; omega
  have v := ev_of (c := t) g ten htm hm
  have hgd : Good t m 0 t.size := (mx_le t (by omega)).1 hmx
  have hL : Hid (decide (1 ≤ (h : Int) ∧ (h : Int) ≤ 9 ∧ 1 ≤ (m : Int) ∧ (m : Int) ≤ 5) = true) := hide (by simp; omega)
  have hN := gram_start g
  have hs := g.small
  have hF : isF s 0 = true := by unfold isF; rw [hN]; simp
  have hE : ∀ b, SaidQ b s t m (pw s 9) (t.size + 1) := fun b => recallExpression_all v ht hgd (t.size + 1)
  have hwh : wh s t = ((hh : Int), 0) := by unfold wh; rw [hw0]
  have HWH := hide hwh
  have HV := hide v
  have HE := hide hE
  have HF := hide hF
  have HG := hide g
  have HT := hide ten
  have HGD := hide hgd
  have HPF := hide hpf
  generalize hTT : told s t h m = TT
  have HTT := hide hTT
  obtain ⟨hl1, hl2⟩ := hl
  clear hTT v hE hF hgd hpf hwh hw0
  go_enter Tryz.func24, Tryz.ntmps24
  go_wp2_with (first
    | (go_at_call 22; refine (tHeight_any (unhide HG) _ htm).mono ?_; rw [unhide HWH]; rintro e w' ⟨rfl, hw⟩; replace hw := hw.symm; subst hw)
    | (go_at_call 50; refine (areLimits_any _ _ _).mono ?_; rw [unhide hL]; rintro e w' ⟨rfl, hw⟩; replace hw := hw.symm; subst hw)
    | (go_at_call 55; refine (mostElements_any _ _ ht).mono ?_; rintro e w' ⟨rfl, hw⟩; replace hw := hw.symm; subst hw)
    | fail)
  refine (newGuide_any (unhide HG) (unhide HT) _ _).mono ?_
  generalize pw s 9 = P at *
  rintro e w1 ⟨rfl, hb1⟩
  obtain ⟨t1, k1, b1⟩ := Mk.start w1 s t m P 90 #[.string ⟨#[]⟩, .int .i64 0, .int .i64 0, .int .i64 0, .int .i64 0, .int .i64 0, .int .i64 0, .int .i64 0, .int .i64 0, .int .i64 0, .int .i64 0, .int .i64 0, .int .i64 0, .int .i64 0, .int .i64 0, .int .i64 0, .int .i64 0, .int .i64 0, .int .i64 0, .int .i64 0, .int .i64 0, .int .i64 0, .int .i64 0, .int .i64 0, .int .i64 0, .int .i64 0, .int .i64 0, .int .i64 0, .string ⟨#[]⟩, .int .i64 0, .slice none 0 0] (by decide)
  obtain ⟨MV, hMV⟩ : ∃ MV, MV = (mks s t m P).toArray := ⟨_, rfl⟩
  have hML : MV.toList = mks s t m P := by rw [hMV]
  have hMs : MV.size = 31 := by rw [hMV]; simp [mks_len]
  rw [← hML] at k1 b1
  rw [← hMs] at t1
  have T1 := hide t1
  have K1 := hide k1
  have B1 := hide b1
  have hin : Hid ((Tryz.prog.info? 90).map (·.size) = some MV.size) := hide (by rw [hMs]; exact Tryz.infoRec)
  have hone : Hid (MV.all (·.oneCell') = true) := hide (by rw [hMV]; exact all_oneCell_toArray (mks_one _ _ _ _))
  generalize hGV : (gds s m P).toArray = GV
  have HBU : Hid (Tryz.prog.built 90 [(0, .agg GV), (1, .string t)] = some MV) := hide (by rw [← hGV, hMV]; exact Tryz.builtRec s t m P)
  clear t1 k1 b1 hML hMs hGV hMV
  go_wp2_with (first
    | (refine wpList_buildTo rfl 90 _ rfl _ rfl MV (by rw [Array.toList_map]; exact unhide HBU) ?_)
    | (refine wpList_store_mid rfl 90 _ _ rfl w1.heap.size 0 MV rfl rfl (unhide T1) (unhide hin) (unhide hone) ?_))
  generalize hw2 : World.setCells _ w1.heap.size 0 MV.toList = w2 at *
  clear hw2 T1
  refine (recallFactor_any (unhide HV) ht (unhide HGD) (unhide HE _) _ _ 0 h 0 t.size hh [] _ (unhide K1) rfl rfl hl2 (unhide HF) (unhide HPF) hhh (by simp)).mono ?_
  rintro e w3 ⟨rfl, hk3, hb3, hD3⟩
  have hbel : Below w.heap.size w w3 := (hb1.trans ((unhide B1).mono hb1.size)).trans (hb3.mono hb1.size)
  have hk3' : Mk w3 w1.heap.size s t m P t.size TT := by rw [← unhide HTT]; simpa [told] using hk3
  obtain ⟨ao, cap, ht30, hcv⟩ := conv_any hk3'
  have HB := hide hbel
  clear hk3 hk3' hb3 hbel hD3
  go_wp2
  go_ret2
  exact ⟨rfl, unhide HB⟩
end Go.Proofs.YtnfaiaoipeholaaGreatDoor

namespace Go.Proofs.YtnfaiaoipeholaaGreatDoor
open Go.RowKit
set_option maxHeartbeats 400000 in
set_option maxRecDepth 1000000 in
theorem pRecall_any {s t : ByteArray} (hk : (chk s).1 = 0) (h m : Int) (w : World) (ht : t.size ≤ maxLen) :
    Calls Tryz.prog 24 #[.string s, .string t, .int .i64 h, .int .i64 m] w fun e w' => e = .returned (.tuple #[.string (rcl s t h m).1, .int .i64 (rcl s t h m).2]) ∧ Below w.heap.size w w' := by
  have g := gram_of hk
  have ten := ten_chk hk
  have hg := hgt_good (t := t) hk
  cases hw0 : whole s t 0 with
  | none =>
    have hwh : wh s t = (0, 7) := by unfold wh; rw [hw0]
    have e : rcl s t h m = (⟨#[]⟩, 7) := by unfold rcl; rw [hg, hwh]; rfl
    rw [e]
    have HWH := hide hwh
    have HG := hide g
    clear e hwh hw0 hg ten hk g
    go_enter Tryz.func24, Tryz.ntmps24
    go_wp2_with (go_at_call 22; refine (tHeight_any (unhide HG) _ ht).mono ?_; rw [unhide HWH]; rintro e w' ⟨rfl, hw⟩; replace hw := hw.symm; subst hw)
    go_ret2
    exact ⟨rfl, Below.refl _ _⟩
  | some hh =>
    have hwh : wh s t = ((hh : Int), 0) := by unfold wh; rw [hw0]
    have e : rcl s t h m = if ¬ (1 ≤ h ∧ h ≤ 9 ∧ 1 ≤ m ∧ m ≤ 5) then (⟨#[]⟩, 9) else if h < (hh : Int) ∨ m < (mx t : Int) then (⟨#[]⟩, 10) else (strOfNums (told s t h.toNat m.toNat), 0) := by
      unfold rcl; rw [hg, hwh, if_neg (by simp)]
    rw [e]
    have ht2 := (whole_parts hw0).1
    by_cases hl : 1 ≤ h ∧ h ≤ 9 ∧ 1 ≤ m ∧ m ≤ 5
    · rw [if_neg (by simpa using hl)]
      obtain ⟨k, rfl⟩ : ∃ k : Nat, h = k := ⟨h.toNat, by omega⟩
      obtain ⟨j, rfl⟩ : ∃ j : Nat, m = j := ⟨m.toNat, by omega⟩
      by_cases hb : (k : Int) < (hh : Int) ∨ (j : Int) < (mx t : Int)
      · rw [if_pos hb]
        have HWH := hide hwh
        have HG := hide g
        have hL : Hid (decide (1 ≤ (k : Int) ∧ (k : Int) ≤ 9 ∧ 1 ≤ (j : Int) ∧ (j : Int) ≤ 5) = true) := hide (by simp only [decide_eq_true_eq]; exact hl)
        by_cases hb1 : (k : Int) < (hh : Int)
        · clear e hwh hw0 hg ten hk g hl hb
          go_enter Tryz.func24, Tryz.ntmps24
          go_wp2_with (first
            | (go_at_call 22; refine (tHeight_any (unhide HG) _ ht).mono ?_; rw [unhide HWH]; rintro e w' ⟨rfl, hw⟩; replace hw := hw.symm; subst hw)
            | (go_at_call 50; refine (areLimits_any _ _ _).mono ?_; rw [unhide hL]; rintro e w' ⟨rfl, hw⟩; replace hw := hw.symm; subst hw)
            | (go_at_call 55; refine (mostElements_any _ _ ht2).mono ?_; rintro e w' ⟨rfl, hw⟩; replace hw := hw.symm; subst hw))
          go_ret2
          exact ⟨rfl, Below.refl _ _⟩
        · have hb2 : (j : Int) < (mx t : Int) := hb.resolve_left hb1
          clear e hwh hw0 hg ten hk g hl hb
          go_enter Tryz.func24, Tryz.ntmps24
          go_wp2_with (first
            | (go_at_call 22; refine (tHeight_any (unhide HG) _ ht).mono ?_; rw [unhide HWH]; rintro e w' ⟨rfl, hw⟩; replace hw := hw.symm; subst hw)
            | (go_at_call 50; refine (areLimits_any _ _ _).mono ?_; rw [unhide hL]; rintro e w' ⟨rfl, hw⟩; replace hw := hw.symm; subst hw)
            | (go_at_call 55; refine (mostElements_any _ _ ht2).mono ?_; rintro e w' ⟨rfl, hw⟩; replace hw := hw.symm; subst hw))
          go_ret2
          exact ⟨rfl, Below.refl _ _⟩
      · rw [if_neg hb]
        simp only [Int.toNat_natCast]
        exact pRecall_ok g ten k j hh w hw0 (by omega) (by omega) (by omega) (by omega)
    · rw [if_pos hl]
      have hL : Hid (decide (1 ≤ h ∧ h ≤ 9 ∧ 1 ≤ m ∧ m ≤ 5) = false) := hide (by simp only [decide_eq_false_iff_not]; exact hl)
      have HWH := hide hwh
      have HG := hide g
      clear e hwh hw0 hg ten hk g hl
      go_enter Tryz.func24, Tryz.ntmps24
      go_wp2_with (first
        | (go_at_call 22; refine (tHeight_any (unhide HG) _ ht).mono ?_; rw [unhide HWH]; rintro e w' ⟨rfl, hw⟩; replace hw := hw.symm; subst hw)
        | (go_at_call 50; refine (areLimits_any _ _ _).mono ?_; rw [unhide hL]; rintro e w' ⟨rfl, hw⟩; replace hw := hw.symm; subst hw))
      go_ret2
      exact ⟨rfl, Below.refl _ _⟩
set_option maxHeartbeats 400000 in
set_option maxRecDepth 1000000 in
theorem recall_any {s t : ByteArray} (h m : Int) (w : World) (hs : s.size ≤ maxLen) (ht : t.size ≤ maxLen) :
    Calls Tryz.prog 10 #[.string s, .string t, .int .i64 h, .int .i64 m] w fun e w' => e = .returned (.tuple #[.string (rcl s t h m).1, .int .i64 (rcl s t h m).2]) ∧ Below w.heap.size w w' := by
  by_cases hk : (chk s).1 = 0
  · have h' : ((chk s).1 != 0) = false := by simp [hk]
    have HK := hide hk; clear hk
    generalize hR : rcl s t h m = R
    have HR := hide hR; clear hR
    go_enter Tryz.func10, Tryz.ntmps10
    go_wp2_with (first | (go_at_call 21; refine (rcheck_any _ _ hs).mono ?_; rintro e w1 ⟨rfl, hb1⟩) | (go_at_call 24; refine (pRecall_any (unhide HK) _ _ _ ht).mono ?_; rw [unhide HR]; rintro e w2 ⟨rfl, hb2⟩))
    go_ret2; exact ⟨rfl, hb1.trans (hb2.mono hb1.size)⟩
  · have e : rcl s t h m = (⟨#[]⟩, (chk s).1) := by unfold rcl; rw [hgt_bad hk, if_pos hk]
    rw [e]
    have h' : ((chk s).1 != 0) = true := by simp [hk]
    clear hk e
    go_enter Tryz.func10, Tryz.ntmps10
    go_wp2_with (first | (go_at_call 21; refine (rcheck_any _ _ hs).mono ?_; rintro e w1 ⟨rfl, hb1⟩))
    go_ret2; exact ⟨rfl, hb1⟩
end Go.Proofs.YtnfaiaoipeholaaGreatDoor

namespace Go.Proofs.YtnfaiaoipeholaaGreatDoor
/-- a scan that only follows the depth, as long as it is not 0 -/
def Scans (t : ByteArray) (G : Nat → Int → Nat) : Prop := ∀ (i : Nat) (d : Int), i < t.size → 0 < d → 0 < dpt (bt t i) d → G i d = G (i + 1) (dpt (bt t i) d)
section
variable {s t : ByteArray} {most : Int} {G : Nat → Int → Nat}
theorem Scans.plain (hG : Scans t G) {i : Nat} {d : Int} (h : i < t.size) (hd : 0 < d) (h1 : cO (bt t i) = false) (h2 : cX (bt t i) = false) : G i d = G (i + 1) d := by
  have e : dpt (bt t i) d = d := by simp [dpt, h1, h2]
  rw [hG i d h hd (by omega), e]
theorem Scans.opens (hG : Scans t G) {i : Nat} {d : Int} (hd : 0 < d) (h1 : cO (bt t i) = true) : G i d = G (i + 1) (d + 1) := by
  have hl : i < t.size := bt_lt (by intro e; rw [e] at h1; revert h1; decide)
  have e : dpt (bt t i) d = d + 1 := by simp [dpt, h1]
  rw [hG i d hl hd (by omega), e]
theorem Scans.closes (hG : Scans t G) {i : Nat} {d : Int} (hd : 1 < d) (h1 : cX (bt t i) = true) : G i d = G (i + 1) (d - 1) := by
  have hl : i < t.size := bt_lt (by intro e; rw [e] at h1; revert h1; decide)
  obtain ⟨_, _, h2, _⟩ := close_not h1
  have e : dpt (bt t i) d = d - 1 := by simp [dpt, h1, h2]
  rw [hG i d hl (by omega) (by omega), e]
def GSkip (G : Nat → Int → Nat) (i j : Nat) : Prop := ∀ d : Int, 0 < d → G i d = G j d
theorem pEl_gskip (hG : Scans t G) {rec : Nat → Option (Nat × Nat)} {b : Int} {many : Bool} (hr : ∀ i j h, rec i = some (j, h) → GSkip G i j) :
    ∀ m i top cnt j h, pEl t rec b many most m i top cnt = some (j, h) → ∃ a, j = a + 1 ∧ bt t a = b ∧ GSkip G i a
  | 0, i, top, cnt, j, h, e => by cases e
  | m + 1, i, top, cnt, j, h, e => by
    unfold pEl at e
    cases hq : rec i with
    | none => rw [hq] at e; cases e
    | some q =>
      obtain ⟨a, k⟩ := q
      rw [hq] at e
      simp only at e
      have hs := hr i a k hq
      split at e
      · cases e
      split at e
      · rename_i hbb
        simp only [Option.some.injEq, Prod.mk.injEq] at e
        exact ⟨a, e.1.symm, hbb, hs⟩
      split at e
      · rename_i hc
        obtain ⟨a', e1, e2, e3⟩ := pEl_gskip hG hr m (a + 1) (max top k) (cnt + 1) j h e
        have hl : a < t.size := bt_lt (by omega)
        refine ⟨a', e1, e2, fun d hd => ?_⟩
        rw [hs d hd, hG.plain hl hd (by rw [hc.1]; decide) (by rw [hc.1]; decide)]
        exact e3 d hd
      · cases e
theorem pB_gskip (hG : Scans t G) {rec : Nat → Nat → Option (Nat × Nat)} (hr : ∀ x i j h, rec x i = some (j, h) → GSkip G i j) {f i j h : Nat} (e : pB s t most rec f i = some (j, h)) : ∃ a, j = a + 1 ∧ bt t a = cC (bt s f) ∧ GSkip G i a := by
  unfold pB at e
  split at e
  · rename_i hh
    simp only [Option.some.injEq, Prod.mk.injEq] at e
    exact ⟨i, e.1.symm, hh.1, fun _ _ => rfl⟩
  · exact pEl_gskip hG (hr (f + 1)) _ _ _ _ _ _ e
theorem pF_gskip (hG : Scans t G) {rec : Nat → Nat → Option (Nat × Nat)} (hr : ∀ x i j h, rec x i = some (j, h) → GSkip G i j) {f i j h : Nat} (hf : isF s f = true) (e : pF s t most rec f i = some (j, h)) : GSkip G i j := by
  intro d hd
  have hnz : bt s f ≠ 0 := by intro e; rw [isF, e] at hf; exact absurd hf (by decide)
  unfold pF at e
  split at e
  · cases e
  rename_i hbt
  have hbt' : bt t i = bt s f := by omega
  have hl : i < t.size := bt_lt (by omega)
  split at e
  · rename_i hL
    obtain ⟨n1, n2, _⟩ := letter_not (c := bt t i) (by rw [hbt', hL]; rfl)
    simp only [Option.some.injEq, Prod.mk.injEq] at e
    rw [hG.plain hl hd n1 n2, e.1]
  rename_i hL
  split at e
  · rename_i hN
    obtain ⟨n1, n2, _⟩ := letter_not (c := bt t i) (by rw [hbt', hN]; simp)
    unfold pN at e
    split at e
    · cases e
    rename_i h40
    have h40' : bt t (i + 1 : Nat) = 40 := by omega
    cases hq : rec (rl s (bt s f) + 2).toNat (i + 1 + 1) with
    | none => rw [hq] at e; cases e
    | some q =>
      obtain ⟨a, k⟩ := q
      rw [hq] at e
      simp only at e
      split at e
      · rename_i h41
        simp only [Option.some.injEq, Prod.mk.injEq] at e
        rw [hG.plain hl hd n1 n2, hG.opens hd (by rw [h40']; decide), hr _ _ _ _ hq (d + 1) (by omega), hG.closes (by omega) (by rw [h41]; decide), e.1]
        congr 1; omega
      · cases e
  · rename_i hN
    have hO : cO (bt s f) = true := by simpa [isF, hL, hN] using hf
    have hx : cX (cC (bt s f)) = true := cX_cC _ (by simpa [cO] using hO)
    obtain ⟨a, e1, e2, e3⟩ := pB_gskip hG hr e
    rw [hG.opens hd (by rw [hbt']; exact hO), e3 (d + 1) (by omega), hG.closes (by omega) (by rw [e2]; exact hx), e1]
    congr 1; omega
theorem pFs_gskip {g : Nat → Nat → Option (Nat × Nat)} : ∀ (L : List Nat) (i top j h : Nat), (∀ f ∈ L, ∀ i j h, g f i = some (j, h) → GSkip G i j) → pFs g L i top = some (j, h) → GSkip G i j
  | [], i, top, j, h, _, e => by
    simp only [pFs, Option.some.injEq, Prod.mk.injEq] at e
    intro d _; rw [e.1]
  | f :: L, i, top, j, h, hg, e => by
    unfold pFs at e
    cases hq : g f i with
    | none => rw [hq] at e; cases e
    | some q =>
      obtain ⟨a, k⟩ := q
      rw [hq] at e
      intro d hd
      rw [hg f (by simp) i a k hq d hd]
      exact pFs_gskip L a (max top k) j h (fun f' hf' => hg f' (by simp [hf'])) e d hd
theorem pE_gskip (hG : Scans t G) : ∀ n x i j h, pE s t most n x i = some (j, h) → GSkip G i j
  | 0, x, i, j, h, e => by cases e
  | n + 1, x, i, j, h, e => by
    obtain ⟨k, a, hk, hk9, ha, hp⟩ := pE_parts e
    obtain ⟨n1, n2, _⟩ := letter_not (c := bt t i) (by simp [cL, cN, cD, hk]; omega)
    have hl : i < t.size := bt_lt (by omega)
    have h1 := pFs_gskip (G := G) (fe s a).1 (i + 1) 0 j h (fun f hf i j h e => pF_gskip hG (fun x i j h e => pE_gskip hG n x i j h e) (fe_mem hf).1 e) hp
    intro d hd
    rw [hG.plain hl hd n1 n2]; exact h1 d hd

/-- where a bracket closes -/
def mtF (t : ByteArray) : Nat → Nat → Int → Nat
  | 0, _, _ => t.size
  | n + 1, j, d => if cO (bt t j) = true then mtF t n (j + 1) (d + 1) else if cX (bt t j) = true then (if d - 1 = 0 then j else mtF t n (j + 1) (d - 1)) else mtF t n (j + 1) d
def mtD (t : ByteArray) (j : Nat) (d : Int) : Nat := mtF t (t.size - j) j d
def mt (t : ByteArray) (i : Nat) : Nat := mtD t i 0
theorem mtD_step {t : ByteArray} {j : Nat} {d : Int} (h : j < t.size) : mtD t j d = if cO (bt t j) = true then mtD t (j + 1) (d + 1) else if cX (bt t j) = true then (if d - 1 = 0 then j else mtD t (j + 1) (d - 1)) else mtD t (j + 1) d := by
  unfold mtD
  rw [show t.size - j = (t.size - (j + 1)) + 1 by omega]
  rfl
theorem mtF_bd (t : ByteArray) : ∀ n j d, n = t.size - j → j ≤ t.size → j ≤ mtF t n j d ∧ mtF t n j d ≤ t.size
  | 0, j, d, hn, hj => by unfold mtF; omega
  | n + 1, j, d, hn, hj => by
    unfold mtF
    have h1 := mtF_bd t n (j + 1) (d + 1) (by omega) (by omega)
    have h2 := mtF_bd t n (j + 1) (d - 1) (by omega) (by omega)
    have h3 := mtF_bd t n (j + 1) d (by omega) (by omega)
    split
    · omega
    split
    · split <;> omega
    · omega
theorem mt_bd {t : ByteArray} {j : Nat} (h : j ≤ t.size) : j ≤ mt t j ∧ mt t j ≤ t.size := mtF_bd t _ j 0 rfl h
theorem mt_scans (t : ByteArray) : Scans t (mtD t) := by
  intro i d hi hd hp
  rw [mtD_step hi]
  unfold dpt at hp ⊢
  split
  · rfl
  · rename_i h1
    split
    · rename_i h2
      simp only [h1, h2] at hp
      rw [if_neg (by simp at hp; omega)]
    · rfl
theorem mt_close {a : Nat} (h : cX (bt t a) = true) : mtD t a 1 = a := by
  have hl : a < t.size := bt_lt (by intro e; rw [e] at h; revert h; decide)
  obtain ⟨_, _, h2, _⟩ := close_not h
  rw [mtD_step hl, if_neg (by simp [h2]), if_pos h, if_pos (by omega)]
theorem mt_open {i : Nat} (h : cO (bt t i) = true) : mt t i = mtD t (i + 1) 1 := by
  have hl : i < t.size := bt_lt (by intro e; rw [e] at h; revert h; decide)
  unfold mt
  rw [mtD_step hl, if_pos h]; rfl
theorem mt_bracket {n f i j h : Nat} (hO : cO (bt s f) = true) (hi : cO (bt t i) = true) (e : pB s t most (pE s t most n) f (i + 1) = some (j, h)) : mt t i + 1 = j ∧ bt t (mt t i) = cC (bt s f) := by
  have hx : cX (cC (bt s f)) = true := cX_cC _ (by simpa [cO] using hO)
  obtain ⟨a, e1, e2, e3⟩ := pB_gskip (mt_scans t) (fun x i j h e => pE_gskip (mt_scans t) n x i j h e) e
  have : mt t i = a := by rw [mt_open hi, e3 1 (by omega), mt_close (by rw [e2]; exact hx)]
  rw [this]
  exact ⟨e1.symm, e2⟩
theorem mt_name {n x i a k : Nat} (h40 : bt t i = 40) (e : pE s t most n x (i + 1) = some (a, k)) (h41 : bt t a = 41) : mt t i = a := by
  rw [mt_open (by rw [h40]; decide), pE_gskip (mt_scans t) n x _ a k e 1 (by omega), mt_close (by rw [h41]; decide)]

/-- the commas up to an end, in no other bracket -/
def rnF (t : ByteArray) (e : Nat) : Nat → Nat → Nat
  | 0, _ => 0
  | n + 1, j => if j < e then (if cO (bt t j) = true then rnF t e n (mt t j + 1) else if bt t j = 44 then rnF t e n (j + 1) + 1 else rnF t e n (j + 1)) else 0
theorem rnF_eq {t : ByteArray} {e : Nat} (he : e ≤ t.size) : ∀ n m j, e - j ≤ n → e - j ≤ m → rnF t e n j = rnF t e m j
  | 0, 0, j, _, _ => rfl
  | 0, m + 1, j, h, _ => by unfold rnF; rw [if_neg (by omega)]
  | n + 1, 0, j, _, h => by unfold rnF; rw [if_neg (by omega)]
  | n + 1, m + 1, j, h1, h2 => by
    unfold rnF
    by_cases hj : j < e
    · have := mt_bd (t := t) (j := j) (by omega)
      rw [if_pos hj, if_pos hj, rnF_eq he n m (mt t j + 1) (by omega) (by omega), rnF_eq he n m (j + 1) (by omega) (by omega)]
    · rw [if_neg hj, if_neg hj]
def rn (t : ByteArray) (e j : Nat) : Nat := rnF t e (e - j) j
theorem rn_end {e j : Nat} (h : e ≤ j) : rn t e j = 0 := by unfold rn; rw [show e - j = 0 by omega]; rfl
theorem rn_step {e j : Nat} (he : e ≤ t.size) (h : j < e) : rn t e j = if cO (bt t j) = true then rn t e (mt t j + 1) else if bt t j = 44 then rn t e (j + 1) + 1 else rn t e (j + 1) := by
  have := mt_bd (t := t) (j := j) (by omega)
  unfold rn
  rw [show e - j = (e - (j + 1)) + 1 by omega]
  conv => lhs; unfold rnF
  rw [if_pos h, rnF_eq he (e - (j + 1)) (e - (mt t j + 1)) (mt t j + 1) (by omega) (by omega)]
theorem rn_plain {e j : Nat} (he : e ≤ t.size) (h : j < e) (h1 : cO (bt t j) = false) (h3 : bt t j ≠ 44) : rn t e j = rn t e (j + 1) := by
  rw [rn_step he h, if_neg (by simp [h1]), if_neg h3]
theorem pF_rn {n e : Nat} (he : e ≤ t.size) {f i j h : Nat} (hf : isF s f = true) (hp : pF s t most (pE s t most n) f i = some (j, h)) (hj : j ≤ e) : rn t e i = rn t e j := by
  have hfw := pF_fwd (most := most) (fun x i => pE_fwd s t most n x i) hf j h hp
  have hnz : bt s f ≠ 0 := by intro e; rw [isF, e] at hf; exact absurd hf (by decide)
  unfold pF at hp
  split at hp
  · cases hp
  rename_i hbt
  have hbt' : bt t i = bt s f := by omega
  split at hp
  · rename_i hL
    obtain ⟨n1, _, n3⟩ := letter_not (c := bt t i) (by rw [hbt', hL]; rfl)
    simp only [Option.some.injEq, Prod.mk.injEq] at hp
    rw [rn_plain he (by omega) n1 n3, hp.1]
  rename_i hL
  split at hp
  · rename_i hN
    obtain ⟨n1, _, n3⟩ := letter_not (c := bt t i) (by rw [hbt', hN]; simp)
    unfold pN at hp
    split at hp
    · cases hp
    rename_i h40
    have h40' : bt t (i + 1 : Nat) = 40 := by omega
    cases hq : pE s t most n (rl s (bt s f) + 2).toNat (i + 1 + 1) with
    | none => rw [hq] at hp; cases hp
    | some q =>
      obtain ⟨a, k⟩ := q
      have hq2 := pE_fwd s t most n _ _ a k hq
      rw [hq] at hp
      simp only at hp
      split at hp
      · rename_i h41
        simp only [Option.some.injEq, Prod.mk.injEq] at hp
        rw [rn_plain he (by omega) n1 n3, rn_step he (by omega), if_pos (by rw [h40']; decide), mt_name h40' hq h41, hp.1]
      · cases hp
  · rename_i hN
    have hO : cO (bt s f) = true := by simpa [isF, hL, hN] using hf
    rw [rn_step he (by omega), if_pos (by rw [hbt']; exact hO), (mt_bracket hO (by rw [hbt']; exact hO) hp).1]
theorem pEl_gt {rec : Nat → Option (Nat × Nat)} {b : Int} {many : Bool} (hr : ∀ i j h, rec i = some (j, h) → i < j) : ∀ m i top cn j h, pEl t rec b many most m i top cn = some (j, h) → i < j ∧ ∀ a k, rec i = some (a, k) → a + 1 ≤ j
  | 0, i, top, cn, j, h, e => by cases e
  | m + 1, i, top, cn, j, h, e => by
    unfold pEl at e
    cases hq : rec i with
    | none => rw [hq] at e; cases e
    | some q =>
      obtain ⟨a, k⟩ := q
      rw [hq] at e
      simp only at e
      have h1 := hr i a k hq
      have key : a + 1 ≤ j := by
        split at e
        · cases e
        split at e
        · simp only [Option.some.injEq, Prod.mk.injEq] at e; omega
        split at e
        · have := (pEl_gt hr m (a + 1) _ _ j h e).1; omega
        · cases e
      refine ⟨by omega, fun a' k' e' => ?_⟩
      simp only [Option.some.injEq, Prod.mk.injEq] at e'; omega
theorem pFs_le {g : Nat → Nat → Option (Nat × Nat)} : ∀ (L : List Nat) (i top j h : Nat), (∀ f ∈ L, ∀ i j h, g f i = some (j, h) → i < j) → pFs g L i top = some (j, h) → i ≤ j
  | [], i, top, j, h, _, e => by
    simp only [pFs, Option.some.injEq, Prod.mk.injEq] at e; omega
  | f :: L, i, top, j, h, hg, e => by
    unfold pFs at e
    cases hq : g f i with
    | none => rw [hq] at e; cases e
    | some q =>
      obtain ⟨a, k⟩ := q
      rw [hq] at e
      have := hg f (by simp) i a k hq
      have := pFs_le L a (max top k) j h (fun f' hf' => hg f' (by simp [hf'])) e
      omega
theorem pFs_rn {n e : Nat} (he : e ≤ t.size) : ∀ (L : List Nat) (i top j h : Nat), (∀ f ∈ L, isF s f = true) → pFs (pF s t most (pE s t most n)) L i top = some (j, h) → j ≤ e → rn t e i = rn t e j
  | [], i, top, j, h, _, hp, _ => by
    simp only [pFs, Option.some.injEq, Prod.mk.injEq] at hp
    rw [hp.1]
  | f :: L, i, top, j, h, hg, hp, hj => by
    unfold pFs at hp
    cases hq : pF s t most (pE s t most n) f i with
    | none => rw [hq] at hp; cases hp
    | some q =>
      obtain ⟨a, k⟩ := q
      rw [hq] at hp
      have hle := pFs_le L a (max top k) j h (fun f' hf' i j h e => (pF_fwd (most := most) (fun x i => pE_fwd s t most n x i) (hg f' (by simp [hf'])) j h e).1) hp
      rw [pF_rn he (hg f (by simp)) hq (by omega)]
      exact pFs_rn he L a (max top k) j h (fun f' hf' => hg f' (by simp [hf'])) hp hj
theorem pE_rn {n x i j h e : Nat} (he : e ≤ t.size) (hp : pE s t most n x i = some (j, h)) (hj : j ≤ e) : rn t e i = rn t e j := by
  cases n with
  | zero => cases hp
  | succ n =>
    have hlt := (pE_fwd s t most (n + 1) x i j h hp).1
    obtain ⟨k, a, hk, hk9, ha, hf⟩ := pE_parts hp
    obtain ⟨n1, _, n3⟩ := letter_not (c := bt t i) (by simp [cL, cN, cD, hk]; omega)
    rw [rn_plain he (by omega) n1 n3]
    exact pFs_rn he _ _ _ _ _ (fun f hf => (fe_mem hf).1) hf hj
theorem pEl_rn {n x e : Nat} (he : e ≤ t.size) {b : Int} {many : Bool} (heb : bt t e = b) : ∀ m i top cn j h, pEl t (pE s t most n x) b many most m i top cn = some (j, h) → e + 1 = j → rn t e i + 1 = nEl t (pE s t most n x) b m i
  | 0, i, top, cn, j, h, e', _ => by cases e'
  | m + 1, i, top, cn, j, h, e', hj => by
    have hfw : ∀ i, Fwd t (t.size + n) i (pE s t most n x i) := fun i j h e => by have := pE_fwd s t most n x i j h e; omega
    unfold pEl at e'
    cases hq : pE s t most n x i with
    | none => rw [hq] at e'; cases e'
    | some q =>
      obtain ⟨a, k⟩ := q
      rw [hq] at e'
      simp only at e'
      have hn : nEl t (pE s t most n x) b (m + 1) i = if bt t a = b then 1 else nEl t (pE s t most n x) b m (a + 1) + 1 := by simp only [nEl, hq]
      split at e'
      · cases e'
      split at e'
      · rename_i hbb
        simp only [Option.some.injEq, Prod.mk.injEq] at e'
        rw [hn, if_pos hbb, pE_rn he hq (by omega), rn_end (by omega)]
      rename_i hbb
      split at e'
      · rename_i hc
        have hae : a < e := by
          have h1 : a + 1 < j := by
            have h2 := pEl_first _ _ _ _ _ _ e'
            obtain ⟨_, j', h', g1, _⟩ := h2
            have := (pE_fwd s t most n x _ j' h' g1).1
            have := (pEl_gt (fun i j h e => (pE_fwd s t most n x i j h e).1) _ _ _ _ _ _ e').2 _ _ g1
            omega
          omega
        have ih := pEl_rn he heb m (a + 1) (max top k) (cn + 1) j h e' hj
        rw [hn, if_neg hbb, pE_rn he hq (by omega), rn_step he hae, if_neg (by rw [hc.1]; decide), if_pos hc.1, ih]
      · cases e'
/-- the reference's count -/
theorem rn_count {n f i j h : Nat} (hO : cO (bt s f) = true) (hi : cO (bt t i) = true) (e : pB s t most (pE s t most n) f (i + 1) = some (j, h)) : rn t (mt t i) (i + 1) + (if i + 1 < mt t i then 1 else 0) = nB s t (pE s t most n) f (i + 1) := by
  obtain ⟨h1, h2⟩ := mt_bracket hO hi e
  have hil : i < t.size := bt_lt (by intro e; rw [e] at hi; revert hi; decide)
  have hmb := mt_bd (t := t) (j := i) (by omega)
  unfold pB at e
  unfold nB
  split at e
  · rename_i hh
    simp only [Option.some.injEq, Prod.mk.injEq] at e
    rw [if_pos hh, rn_end (by omega), if_neg (by omega)]
  · rename_i hh
    rw [if_neg hh]
    obtain ⟨_, j', h', g1, _⟩ := pEl_first _ _ _ _ _ _ e
    have g2 := (pE_fwd s t most n _ _ j' h' g1).1
    have g3 := (pEl_gt (fun i j h e => (pE_fwd s t most n (f + 1) i j h e).1) _ _ _ _ _ _ e).2 _ _ g1
    rw [if_pos (by omega), pEl_rn hmb.2 h2 _ _ _ _ _ _ e h1]
/-- where nothing fits nothing is -/
theorem nB_none {n f i j h l : Nat} (e : pB s t most (pE s t most n) f i = some (j, h)) (hl : h ≤ l) (hx : expFit s (nFit s l) (f + 1) = false) : nB s t (pE s t most n) f i = 0 := by
  unfold pB at e
  unfold nB
  split at e
  · rename_i hh; rw [if_pos hh]
  · exfalso
    obtain ⟨_, j', h', g1, g2⟩ := pEl_first _ _ _ _ _ _ e
    have := pE_fit n (f + 1) _ _ _ l g1 (by omega)
    rw [hx] at this; cases this
theorem nB_one {n f i j h : Nat} (hf : few (bt s f) = 1) (hO : cO (bt s f) = true) (e : pB s t most (pE s t most n) f i = some (j, h)) : 1 ≤ nB s t (pE s t most n) f i := by
  have hx : cX (cC (bt s f)) = true := cX_cC _ (by simpa [cO] using hO)
  unfold pB at e
  unfold nB
  split at e
  · rename_i hh
    unfold few at hf
    rw [if_neg (by omega)] at hf; cases hf
  · rename_i hh
    rw [if_neg hh]
    exact (pEl_skip (rec := pE s t most n (f + 1)) (fun i j h e => pE_skip s t most n (f + 1) i j h e) hx _ _ _ _ _ _ e 1 0 (by omega)).2
/-- behind what is left there is a bracket at least -/
theorem pE_ends {n x j h k C q : Nat} {dr : Nat → List Int} {cl : Int} {D Z : List Int} (h' : Rest t (pE s t 0 n x) dr cl j h k C q D Z) : q + 1 ≤ j := by
  rcases h' with ⟨_, e, _⟩ | ⟨_, mm, top, cn, many, e, _⟩
  · omega
  · have := (pEl_gt (fun i j h e => (pE_fwd s t 0 n x i j h e).1) _ _ _ _ _ _ e).1
    split at this <;> omega
end
end Go.Proofs.YtnfaiaoipeholaaGreatDoor
