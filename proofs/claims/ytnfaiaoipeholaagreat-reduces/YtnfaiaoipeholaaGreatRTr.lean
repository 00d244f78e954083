/- The reference reads a tree of an expression. -/
import Derived.Test.YtnfaiaoipeholaaGreatRFac
import Derived.Test.YtnfaiaoipeholaaGreatRBr
namespace Go.Proofs.YtnfaiaoipeholaaGreat
open Go.RowKit
section
variable {s t : ByteArray} {B g : Nat} {most : Int}

set_option maxHeartbeats 1000000 in
set_option maxRecDepth 1000000 in
theorem rtree_step {n : Nat} (hn : n ≤ 2003) (hT : SaidT s t B g most n) : SaidT s t B g most (n + 1) := by
  intro q p x m i w v hE hq hi hin
  subst hq
  have hBr : SaidB s t B g most n := fun q p m f i w v hE hq hi hin hc => rbracket_any (by omega) hT q p m f i w v hE hq hi hin hc
  have ht := v.ht
  generalize hR : pE s t most (n + 1) x i = R
  unfold pE at hR
  by_cases hl : i < t.size
  case neg =>
    rw [if_neg (by rw [bt_out t i (by omega)]; decide)] at hR
    subst hR
    go_enter Tryz.func149, Tryz.ntmps149
    go_wp2
    go_ret2
    exact ⟨rfl, Below.refl _ _⟩
  have hb := bt_at t i hl
  have hbd := bt_bd t i
  rw [hb] at hR hbd
  clear hb
  cases hd : cD (t[i].toNat : Int)
  · rw [if_neg (by simp [hd])] at hR
    subst hR
    have hdc : (t[i].toNat : Int) < 48 ∨ (¬ (t[i].toNat : Int) < 48 ∧ 57 < (t[i].toNat : Int)) := by
      simp [cD] at hd; omega
    clear hd
    rcases hdc with h48 | ⟨h48, h57⟩
    all_goals
      go_enter Tryz.func149, Tryz.ntmps149
      go_wp2
      go_ret2
      exact ⟨rfl, Below.refl _ _⟩
  · rw [if_pos hd] at hR
    have hdv : 48 ≤ (t[i].toNat : Int) ∧ (t[i].toNat : Int) ≤ 57 := by simpa [cD] using hd
    obtain ⟨h48, h57⟩ := hdv
    clear hd
    obtain ⟨d, hdn⟩ : ∃ d : Nat, (t[i].toNat : Int) - 48 = (d : Int) := ⟨((t[i].toNat : Int) - 48).toNat, by omega⟩
    rw [show ((t[i].toNat : Int) - 48).toNat = d by omega] at hR
    cases m with
    | zero => exact hE.elim
    | succ m =>
    obtain ⟨hp, N, gv, cap, hN0, hN4, hcp, hgv, hNn, hall⟩ := id hE
    have HE := hide hE
    have HALL := hide hall
    have HNN := hide hNn
    clear hE hall hNn
    by_cases hdN : d < N
    case neg =>
      rw [ap_none (unhide HNN) d (by omega)] at hR
      subst hR
      have hge : (N : Int) ≤ (t[i].toNat : Int) - 48 := by omega
      clear hdn
      go_enter Tryz.func149, Tryz.ntmps149
      go_wp2
      go_ret2
      exact ⟨rfl, Below.refl _ _⟩
    obtain ⟨a, va, hap, hca, hA⟩ := unhide HALL d hdN
    rw [hap] at hR
    simp only at hR
    obtain ⟨ao, ca, rfl, hfac⟩ := hA
    have hlen := fe_len s a
    have hs := v.hs
    have HFAC := hide hfac
    have HR := hide hR
    clear hfac hR hap
    have hlt : (t[i].toNat : Int) - 48 < N := by omega
    go_enter Tryz.func149, Tryz.ntmps149
    go_wp2
    generalize hL : (fe s a).1 = L at *
    have hmem : ∀ f ∈ L, isF s f = true := fun f hf => (fe_mem (p := a) (by rw [hL]; exact hf)).1
    have HMEM := hide hmem
    clear hL hmem
    go_loopw [3, 13, 14] (fun iv tv jv wr => ∃ (k a1 top : Nat), iv = .int .i64 a1 ∧ tv = .int .i64 top ∧ jv = .int .i64 k ∧ k ≤ L.length ∧ i < a1 ∧ a1 ≤ t.size ∧ top ≤ n + 1 ∧ Below w.heap.size w wr ∧ Hid (R = pFs (pF s t most (pE s t most n)) (L.drop k) a1 top)) (fun _ _ jv _ => 400 - (intOf jv).toNat)
    case atStart => exact ⟨0, i + 1, 0, by go_num, rfl, rfl, by omega, by omega, by omega, by omega, Below.refl _ _, hide (unhide HR).symm⟩
    case round =>
      obtain ⟨k, a1, top, rfl, rfl, rfl, hk, hia, hat, htop, hb, hN⟩ := hrel
      have hpl : p < w.heap.size := Nat.lt_of_lt_of_le hp v.hB
      have hgl : gv < w.heap.size := Nat.lt_of_lt_of_le hgv v.hB
      have d0 := (hb.cell (p := ⟨p, 0, none⟩) hpl).trans hcp
      have d1 := (hb.cell (p := ⟨gv, d, none⟩) hgl).trans hca
      by_cases hkl : k < L.length
      · obtain ⟨ga, rfl, hga, hF⟩ := unhide HFAC k hkl
        have hfm := unhide HMEM (L.getD k 0) (by rw [List.getD_eq_getElem?_getD, List.getElem?_eq_getElem hkl]; simp)
        have hdrop : L.drop k = L.getD k 0 :: L.drop (k + 1) := by
          rw [List.drop_eq_getElem_cons hkl, List.getD_eq_getElem?_getD, List.getElem?_eq_getElem hkl]; rfl
        have hN2 := unhide hN
        rw [hdrop] at hN2
        clear hN hdrop
        generalize L.getD k 0 = fk at *
        have hgal : ga < w.heap.size := Nat.lt_of_lt_of_le hga v.hB
        obtain ⟨hF1, hF2⟩ := hF
        have e0 := (hb.cell (p := ⟨ga, k * 2, none⟩) hgal).trans hF1
        obtain ⟨sv, e1, hsub⟩ : ∃ sv, wr.cell? ⟨ga, k * 2 + 1, none⟩ = some sv ∧ SubOk wr s B fk sv := by
          rcases hF2 with ⟨q1, q2⟩ | ⟨q1, p', q2, q3⟩
          · exact ⟨_, (hb.cell (p := ⟨ga, k * 2 + 1, none⟩) hgal).trans q2, .inl ⟨q1, rfl⟩⟩
          · exact ⟨_, (hb.cell (p := ⟨ga, k * 2 + 1, none⟩) hgal).trans q2, .inr ⟨q1, p', m, rfl, q3.below hb v.hB⟩⟩
        have vw := hide (v.below hb)
        have HSUB := hide hsub
        have HFM := hide hfm
        clear hF1 hF2 hsub hfm
        cases hq : pF s t most (pE s t most n) fk a1 with
        | none =>
          have hN3 : R = none := by rw [hN2]; simp only [pFs, hq]
          have HN := hide hN3
          have HQ := hide hq
          clear hN2 hN3 hq
          go_wp2_with fail
          refine (rfactor_any (by omega) hT hBr _ sv fk a1 _ (unhide vw) (unhide HSUB) rfl (by omega) (by omega) (unhide HFM)).mono ?_
          rw [unhide HQ]
          rintro e w2 ⟨rfl, hb2⟩
          simp only [rr]
          go_wp2
          go_ret2
          exact ⟨by rw [unhide HN]; rfl, hb.trans (hb2.mono hb.size)⟩
        | some y =>
          obtain ⟨j1, h1⟩ := y
          have hN3 : R = pFs (pF s t most (pE s t most n)) (L.drop (k + 1)) j1 (max top h1) := by rw [hN2]; simp only [pFs, hq]
          have hfw := pF_fwd (most := most) (fun x i => pE_fwd s t most n x i) (unhide HFM) j1 h1 hq
          obtain ⟨hf1, hf2, hf3⟩ := hfw
          have HN := hide hN3
          have HQ := hide hq
          clear hN2 hN3 hq
          go_wp2_with fail
          refine (rfactor_any (by omega) hT hBr _ sv fk a1 _ (unhide vw) (unhide HSUB) rfl (by omega) (by omega) (unhide HFM)).mono ?_
          rw [unhide HQ]
          rintro e w2 ⟨rfl, hb2⟩
          simp only [rr]
          go_wp2_with (go_at_call 176; refine (higher_any _ _ _).mono ?_; rintro e w' ⟨rfl, hw⟩; subst hw)
          go_roundw
          case rel => exact ⟨k + 1, j1, max top h1, rfl, by go_num, by go_num, by omega, by omega, by omega, by omega, hb.trans (hb2.mono hb.size), hide (unhide HN)⟩
          case measure => simp [intOf]; omega
      · have hN2 := unhide hN
        rw [List.drop_eq_nil_of_le (by omega)] at hN2
        have HN := hide hN2
        clear hN hN2
        go_wp2
        go_ret2
        exact ⟨by rw [unhide HN]; simp only [pFs, rr]; rfl, hb⟩

theorem rtree_all : ∀ n, n ≤ 2004 → SaidT s t B g most n
  | 0, _ => by
    intro q p x m i w v hE hq hi hin
    subst hq
    have ht := v.ht
    go_enter Tryz.func149, Tryz.ntmps149
    go_wp2
    go_ret2
    exact ⟨rfl, Below.refl _ _⟩
  | n + 1, h => rtree_step (by omega) (rtree_all n (by omega))
end

/-- the height, or -1 -/
def rw_ (o : Option Nat) : Int := match o with
  | none => -1
  | some h => (h : Int)

set_option maxHeartbeats 400000 in
theorem rwhole_any {s t : ByteArray} {B g : Nat} (most : Int) (w : World) (gr : Gr w s B g) (hB : B ≤ w.heap.size) (hs : s.size ≤ 300) (hm : t.size ≤ maxLen) (hst : cN (bt s (0 : Nat)) = true) :
    Calls Tryz.prog 61 #[.pointer (some ⟨g, 0, none⟩), .string t, .int .i64 most] w fun e w' => e = .returned (.int .i64 (rw_ (whole s t most))) ∧ Below w.heap.size w w' := by
  unfold maxLen at hm
  generalize hR : whole s t most = R
  unfold whole at hR
  by_cases hl : 2000 < t.size
  · rw [if_pos hl] at hR
    subst hR
    go_enter Tryz.func61, Tryz.ntmps61
    go_wp2
    go_ret
    exact ⟨rfl, Below.refl _ _⟩
  · rw [if_neg hl] at hR
    have v : Wd w s t B g := ⟨gr, hB, hs, by omega⟩
    have c0 := gr.start
    have HST := hide hst
    have hfs : Hid (isF s 0 = true) := hide (by unfold isF; rw [hst]; simp)
    have hso : Hid (SubOk w s B 0 (.pointer none)) := hide (.inl ⟨by
      have hv : 65 ≤ bt s (0 : Nat) ∧ bt s (0 : Nat) ≤ 90 := by simpa [cN] using hst
      cases e : cO (bt s (0 : Nat))
      · rfl
      · have := cO_vals e; omega, rfl⟩)
    have hT : SaidT s t B g most (t.size + 1) := rtree_all _ (by omega)
    have hBr : SaidB s t B g most (t.size + 1) := fun q p m f i w v hE hq hi hin hc => rbracket_any (by omega) hT q p m f i w v hE hq hi hin hc
    have V := hide v
    clear hst v gr
    cases hq : pF s t most (pE s t most (t.size + 1)) 0 0 with
    | none =>
      rw [hq] at hR
      simp only at hR
      subst hR
      have HQ := hide hq; clear hq
      have hne : ((-1 : Int) != (t.size : Int)) = true := by simp only [bne_iff_ne]; omega
      go_enter Tryz.func61, Tryz.ntmps61
      go_wp2_with fail
      refine (rfactor_any (by omega) hT hBr _ _ 0 0 _ (unhide V) (unhide hso) rfl (by omega) (by omega) (unhide hfs)).mono ?_
      rw [unhide HQ]
      rintro e w2 ⟨rfl, hb2⟩
      simp only [rr]
      go_wp2
      go_ret
      exact ⟨rfl, hb2⟩
    | some y =>
      obtain ⟨j1, h1⟩ := y
      rw [hq] at hR
      simp only at hR
      have HQ := hide hq; clear hq
      by_cases he : j1 = t.size
      · rw [if_pos he] at hR
        subst hR
        have hne : ((j1 : Int) != (t.size : Int)) = false := by simp [he]
        clear he
        go_enter Tryz.func61, Tryz.ntmps61
        go_wp2_with fail
        refine (rfactor_any (by omega) hT hBr _ _ 0 0 _ (unhide V) (unhide hso) rfl (by omega) (by omega) (unhide hfs)).mono ?_
        rw [unhide HQ]
        rintro e w2 ⟨rfl, hb2⟩
        simp only [rr]
        go_wp2
        go_ret
        exact ⟨rfl, hb2⟩
      · rw [if_neg he] at hR
        subst hR
        have hne : ((j1 : Int) != (t.size : Int)) = true := by simp only [bne_iff_ne]; omega
        clear he
        go_enter Tryz.func61, Tryz.ntmps61
        go_wp2_with fail
        refine (rfactor_any (by omega) hT hBr _ _ 0 0 _ (unhide V) (unhide hso) rfl (by omega) (by omega) (unhide hfs)).mono ?_
        rw [unhide HQ]
        rintro e w2 ⟨rfl, hb2⟩
        simp only [rr]
        go_wp2
        go_ret
        exact ⟨rfl, hb2⟩
end Go.Proofs.YtnfaiaoipeholaaGreat
