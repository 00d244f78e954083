/- PChart3 PFill PFill2 PFill3 -/
import Derived.Test.YtnfaiaoipeholaaGreatDoorAa23
namespace Go.Proofs.YtnfaiaoipeholaaGreatDoor
open Go.RowKit
theorem bst_yes {f : Nat → Nat} {n k : Nat} {r : Nat × Nat} (h : f k < r.1) : bst f (n + 1) k r = bst f n (k + 1) (f k, k) := by
  show bst f n (k + 1) (if f k < r.1 then (f k, k) else r) = _
  rw [if_pos h]
theorem bst_no {f : Nat → Nat} {n k : Nat} {r : Nat × Nat} (h : ¬ f k < r.1) : bst f (n + 1) k r = bst f n (k + 1) r := by
  show bst f n (k + 1) (if f k < r.1 then (f k, k) else r) = _
  rw [if_neg h]
section
variable {w : World} {b : Nat} {s u : ByteArray} {r x y q : Nat} {R X W : Tb}
/-- two numbers -/
def two (v : Nat × Nat) : Value := .tuple #[.int .i64 (v.1 : Nat), .int .i64 (v.2 : Nat)]

set_option maxHeartbeats 1000000 in
set_option maxRecDepth 1000000 in
theorem rest_any (g : Gram s) (ins : Ins s) (nr : Nrm s u R X W) (h : Ch w b s u r x y q R X W) (pq aq eq : Int) (p a e : Nat) (hp : p < s.size) (hae : a ≤ e) (he : e ≤ u.size) (e1 : pq = p) (e2 : aq = a) (e3 : eq = e) :
    Calls Tryz.prog 171 #[.pointer (some ⟨b, 0, none⟩), .int .i64 pq, .int .i64 aq, .int .i64 eq] w fun r w' => r = .returned (two (rsC s u R X W p a e)) ∧ Below w.heap.size w w' := by
  have hu20 := h.hu
  have hs300 := h.hs
  have c0 := h.gram
  have HK := hide h
  unfold two
  generalize hR : rsC s u R X W p a e = V
  unfold rsC at hR
  subst e1 e2 e3
  cases hf : isF s p
  · rw [if_neg (by simp [hf])] at hR
    have hf' := hide hf
    have h1 : Hid ((if (a : Int) = (e : Int) then (0 : Int) else 2001) = (V.1 : Int)) := hide (by
      rw [← hR]
      by_cases hc : a = e
      · rw [if_pos (by omega), if_pos hc]; rfl
      · rw [if_neg (by omega), if_neg hc]; rfl)
    have h2 : V.2 = e := by rw [← hR]
    clear hf hR h nr
    go_enter Tryz.func171, Tryz.ntmps171
    go_wp2_with (first
      | (go_at_call 168; refine (isFactor_any _ _ p _ hs300 rfl).mono ?_; rintro e w' ⟨rfl, hw⟩; replace hw := hw.symm; subst hw; rw [unhide hf'])
      | (go_at_call 184; refine (noFactors_any _ _ _).mono ?_; rintro e w' ⟨rfl, hw⟩; replace hw := hw.symm; subst hw; rw [unhide h1]))
    go_ret2
    exact ⟨by rw [h2] <;> rfl, Below.refl _ _⟩
  · rw [if_pos hf] at hR
    have hf' := hide hf
    have hbh := ins.beh p hf
    have HS := hide (fun w1 (h1 : Ch w1 b s u r x y q R X W) => spot_any h1 p p hp rfl)
    have HF := hide (fun w1 (k : Nat) (h1 : Ch w1 b s u r x y q R X W) (hk : k ≤ e) => cfac_any g ins nr h1 p a k p a k hf (by omega) (by omega) rfl rfl rfl)
    have HL := hide (fun (w1 : World) (wq : Int) (k : Nat) (h1 : Ch w1 b s u r x y q R X W) (ew : wq = (bh s p : Nat)) (hk : k ≤ e) => least_any h1.tr wq k e (bh s p) k e hu20 hs300 (by omega) (by omega) he ew rfl rfl)
    have hfd := Tryz.fld1 ((wi s p : Nat) : Int) ((bh s p : Nat) : Int) (pl (nx s p)) (begs s p)
    have hc1 : ∀ k, fcC s u X W p a k ≤ 2010 := by
      intro k
      unfold fcC
      have := nr.cX (wi s p) a k
      have := nr.cW (wi s p) a k
      split
      · split <;> omega
      split
      · omega
      split
      · omega
      split <;> omega
    have hc2 : ∀ k, R (bh s p) k e ≤ 2001 := fun k => nr.cR _ _ _
    generalize hF : (fun k => fcC s u X W p a k) = F at *
    have hF' : ∀ k, fcC s u X W p a k = F k := fun k => by rw [← hF]
    generalize hG : (fun k => R (bh s p) k e) = G at *
    have hG' : ∀ k, R (bh s p) k e = G k := fun k => by rw [← hG]
    simp only [hF', hG'] at hR hc1 hc2
    have HF2 := hide (fun w1 k h1 hk => by have := unhide HF w1 k h1 hk; rw [hF'] at this; exact this)
    have HL2 := hide (fun w1 wq k h1 ew hk => by have := unhide HL w1 wq k h1 ew hk; rw [hG'] at this; exact this)
    have HR := hide hR
    clear hf hR h nr hF hG hF' hG' HF HL
    go_enter Tryz.func171, Tryz.ntmps171
    go_wp2_with (first
      | (go_at_call 168; refine (isFactor_any _ _ p _ hs300 rfl).mono ?_; rintro e w' ⟨rfl, hw⟩; replace hw := hw.symm; subst hw; rw [unhide hf'])
      | (go_at_call 107; refine (unhide HS _ (unhide HK)).mono ?_; rintro e w1 ⟨rfl, hb1⟩; have hk1 := hide ((unhide HK).below hb1); replace hb1 := hide hb1; unfold spV))
    clear hfd HK c0
    go_loopw [11, 12, 13] (fun lv cv ev wr => ∃ (k v1 v2 : Nat), lv = .int .i64 v1 ∧ cv = .int .i64 v2 ∧ ev = .int .i64 k ∧ k ≤ e + 1 ∧ v1 ≤ 2001 ∧ Hid (bst (fun e => F e + G e) (e + 1 - k) k (v1, v2) = V) ∧ Hid (Ch wr b s u r x y q R X W) ∧ Hid (Below w.heap.size w wr)) (fun _ _ ev _ => e + 1 - (intOf ev).toNat)
    case atStart => exact ⟨a, 2001, e, rfl, rfl, rfl, by omega, by omega, HR, hk1, hb1⟩
    case round =>
      obtain ⟨k, v1, v2, rfl, rfl, rfl, hk, hv, hI, hC, hB⟩ := hrel
      by_cases hke : k ≤ e
      · have c1 := hc1 k
        have c2 := hc2 k
        have HF3 := hide (fun w1 h1 => unhide HF2 w1 k h1 hke)
        have HL3 := hide (fun w1 wq h1 ew => unhide HL2 w1 wq k h1 ew hke)
        by_cases hlt : F k + G k < v1
        · have HI2 : Hid (bst (fun e => F e + G e) (e + 1 - (k + 1)) (k + 1) (F k + G k, k) = V) := hide (by
            have := unhide hI
            rw [show e + 1 - k = (e - k) + 1 by omega, bst_yes hlt] at this
            rw [show e + 1 - (k + 1) = e - k by omega]; exact this)
          clear hI HF2 HL2
          generalize F k = fk at *
          generalize G k = gk at *
          go_wp2_with (first
            | (go_at_call 60; refine (unhide HF3 _ (unhide hC)).mono ?_; rintro e w2 ⟨rfl, hb2⟩; have hk2 := hide ((unhide hC).below hb2); replace hb2 := hide hb2)
            | (go_at_call 108; refine (unhide HL3 _ _ (unhide hk2) rfl).mono ?_; rintro e w' ⟨rfl, k3, rfl⟩))
          go_roundw
          case rel => exact ⟨k + 1, fk + gk, k, by go_num, rfl, by go_num, by omega, by omega, HI2, hide ((unhide hk2).below (below_dr (Below.refl _ _) _)), hide (below_dr ((unhide hB).trans ((unhide hb2).mono (unhide hB).size)) _)⟩
          case measure => simp [intOf]; omega
        · have HI2 : Hid (bst (fun e => F e + G e) (e + 1 - (k + 1)) (k + 1) (v1, v2) = V) := hide (by
            have := unhide hI
            rw [show e + 1 - k = (e - k) + 1 by omega, bst_no hlt] at this
            rw [show e + 1 - (k + 1) = e - k by omega]; exact this)
          clear hI HF2 HL2
          generalize F k = fk at *
          generalize G k = gk at *
          go_wp2_with (first
            | (go_at_call 60; refine (unhide HF3 _ (unhide hC)).mono ?_; rintro e w2 ⟨rfl, hb2⟩; have hk2 := hide ((unhide hC).below hb2); replace hb2 := hide hb2)
            | (go_at_call 108; refine (unhide HL3 _ _ (unhide hk2) rfl).mono ?_; rintro e w' ⟨rfl, k3, rfl⟩))
          go_roundw
          case rel => exact ⟨k + 1, v1, v2, rfl, rfl, by go_num, by omega, by omega, HI2, hide ((unhide hk2).below (below_dr (Below.refl _ _) _)), hide (below_dr ((unhide hB).trans ((unhide hb2).mono (unhide hB).size)) _)⟩
          case measure => simp [intOf]; omega
      · have HV : Hid (V = (v1, v2)) := hide (by
          have := unhide hI
          rw [show e + 1 - k = 0 by omega] at this; exact this.symm)
        clear hI HF2 HL2
        go_wp2
        go_ret2
        exact ⟨by rw [unhide HV] <;> rfl, unhide hB⟩

set_option maxHeartbeats 1000000 in
set_option maxRecDepth 1000000 in
theorem row_any (nr : Nrm s u R X W) (h : Ch w b s u r x y q R X W) (pq aq eq : Int) (p a e : Nat) (hp : p < s.size) (hae : a ≤ e) (he : e ≤ u.size) (e1 : pq = p) (e2 : aq = a) (e3 : eq = e) :
    Calls Tryz.prog 174 #[.pointer (some ⟨b, 0, none⟩), .int .i64 pq, .int .i64 aq, .int .i64 eq] w fun r w' => r = .returned (two (rwC X W p a e)) ∧ Below w.heap.size w w' := by
  have hu20 := h.hu
  have hs300 := h.hs
  have HK := hide h
  unfold two
  generalize hR : rwC X W p a e = V
  unfold rwC at hR
  subst e1 e2 e3
  have HF := hide (fun w1 (k : Nat) (h1 : Ch w1 b s u r x y q R X W) (hk : k ≤ e) => least_any h1.tx p a k p a k hu20 hs300 (by omega) (by omega) (by omega) rfl rfl rfl)
  have HL := hide (fun (w1 : World) (k : Nat) (h1 : Ch w1 b s u r x y q R X W) (hk : k ≤ e) => least_any h1.ty p k e p k e hu20 hs300 (by omega) (by omega) he rfl rfl rfl)
  have hc1 : ∀ k, X p a k ≤ 2001 := fun k => nr.cX _ _ _
  have hc2 : ∀ k, W p k e ≤ 2001 := fun k => nr.cW _ _ _
  generalize hF : (fun k => X p a k) = F at *
  have hF' : ∀ k, X p a k = F k := fun k => by rw [← hF]
  generalize hG : (fun k => W p k e) = G at *
  have hG' : ∀ k, W p k e = G k := fun k => by rw [← hG]
  simp only [hF', hG'] at hR hc1 hc2
  have HF2 := hide (fun w1 k h1 hk => by have := unhide HF w1 k h1 hk; rw [hF'] at this; exact this)
  have HL2 := hide (fun w1 k h1 hk => by have := unhide HL w1 k h1 hk; rw [hG'] at this; exact this)
  have HR := hide hR
  have HF0 := hide (unhide HF2 w e (unhide HK) (Nat.le_refl _))
  have c0 := hc1 e
  clear hR h nr hF hG hF' hG' HF HL
  go_enter Tryz.func174, Tryz.ntmps174
  go_wp2_with (go_at_call 108; refine (unhide HF0).mono ?_; rintro e w' ⟨rfl, k1, rfl⟩)
  go_loopw [10, 11, 12] (fun lv cv ev wr => ∃ (k v1 v2 : Nat), lv = .int .i64 v1 ∧ cv = .int .i64 v2 ∧ ev = .int .i64 k ∧ k ≤ e + 1 ∧ v1 ≤ 2001 ∧ Hid (bst (fun e => F e + 1 + G e) (e - k) k (v1, v2) = V) ∧ Hid (Ch wr b s u r x y q R X W) ∧ Hid (Below w.heap.size w wr)) (fun _ _ ev _ => e + 1 - (intOf ev).toNat)
  case atStart => exact ⟨a + 1, F e, e, rfl, rfl, by go_num, by omega, by omega, HR, hide ((unhide HK).below (below_dr (Below.refl _ _) _)), hide (below_dr (Below.refl _ _) _)⟩
  case round =>
    obtain ⟨k, v1, v2, rfl, rfl, rfl, hk, hv, hI, hC, hB⟩ := hrel
    by_cases hke : k < e
    · have c1 := hc1 k
      have c2 := hc2 k
      have HF3 := hide (fun w1 h1 => unhide HF2 w1 k h1 (by omega))
      have HL3 := hide (fun w1 h1 => unhide HL2 w1 k h1 (by omega))
      by_cases hlt : F k + 1 + G k < v1
      · have HI2 : Hid (bst (fun e => F e + 1 + G e) (e - (k + 1)) (k + 1) (F k + 1 + G k, k) = V) := hide (by
          have := unhide hI
          rw [show e - k = (e - (k + 1)) + 1 by omega, bst_yes hlt] at this; exact this)
        clear hI HF2 HL2 HF0
        generalize F k = fk at *
        generalize G k = gk at *
        go_wp2_with (first
          | (go_at_call_of 108 ({ block := b, off := 5 } : Addr); refine (unhide HF3 _ (unhide hC)).mono ?_; rintro e w2 ⟨rfl, k3, rfl⟩)
          | (go_at_call_of 108 ({ block := b, off := 7 } : Addr); refine (unhide HL3 _ ((unhide hC).below (below_dr (Below.refl _ _) _))).mono ?_; rintro e w' ⟨rfl, k4, rfl⟩))
        go_roundw
        case rel => exact ⟨k + 1, fk + 1 + gk, k, by go_num, rfl, by go_num, by omega, by omega, HI2, hide ((unhide hC).below (below_dr (Below.refl _ _) _)), hide (below_dr (unhide hB) _)⟩
        case measure => simp [intOf]; omega
      · have HI2 : Hid (bst (fun e => F e + 1 + G e) (e - (k + 1)) (k + 1) (v1, v2) = V) := hide (by
          have := unhide hI
          rw [show e - k = (e - (k + 1)) + 1 by omega, bst_no hlt] at this; exact this)
        clear hI HF2 HL2 HF0
        generalize F k = fk at *
        generalize G k = gk at *
        go_wp2_with (first
          | (go_at_call_of 108 ({ block := b, off := 5 } : Addr); refine (unhide HF3 _ (unhide hC)).mono ?_; rintro e w2 ⟨rfl, k3, rfl⟩)
          | (go_at_call_of 108 ({ block := b, off := 7 } : Addr); refine (unhide HL3 _ ((unhide hC).below (below_dr (Below.refl _ _) _))).mono ?_; rintro e w' ⟨rfl, k4, rfl⟩))
        go_roundw
        case rel => exact ⟨k + 1, v1, v2, rfl, rfl, by go_num, by omega, by omega, HI2, hide ((unhide hC).below (below_dr (Below.refl _ _) _)), hide (below_dr (unhide hB) _)⟩
        case measure => simp [intOf]; omega
    · have HV : Hid (V = (v1, v2)) := hide (by
        have := unhide hI
        rw [show e - k = 0 by omega] at this; exact this.symm)
      clear hI HF2 HL2 HF0
      go_wp2
      go_ret2
      exact ⟨by rw [unhide HV] <;> rfl, unhide hB⟩

set_option maxHeartbeats 1000000 in
set_option maxRecDepth 1000000 in
theorem cexp_any (ins : Ins s) (nr : Nrm s u R X W) (h : Ch w b s u r x y q R X W) (pq aq eq : Int) (p a e : Nat) (hp : p < s.size) (hb : begs s p = true) (ha : a ≤ u.size) (he : e ≤ u.size) (e1 : pq = p) (e2 : aq = a) (e3 : eq = e) :
    Calls Tryz.prog 175 #[.pointer (some ⟨b, 0, none⟩), .int .i64 pq, .int .i64 aq, .int .i64 eq] w fun r w' => r = .returned (two (exC s R p a e)) ∧ Below w.heap.size w w' := by
  have hu20 := h.hu
  have hs300 := h.hs
  have HK := hide h
  have hlen := ins.few p hb
  unfold two
  generalize hR : exC s R p a e = V
  unfold exC at hR
  subst e1 e2 e3
  have HL := hide (fun (w1 : World) (z : Nat) (h1 : Ch w1 b s u r x y q R X W) (hz : z < s.size) => least_any h1.tr z a e z a e hu20 hs300 (by omega) ha he rfl rfl rfl)
  have HS := hide (fun (w1 : World) (z : Nat) (h1 : Ch w1 b s u r x y q R X W) (hz : z < s.size) => spot_any h1 z z hz rfl)
  have hc1 : ∀ z, R z a e ≤ 2001 := fun z => nr.cR _ _ _
  generalize hN : (sts s p).length = N at *
  have HN := hide hN
  have HR := hide hR
  clear hR h nr hN
  go_enter Tryz.func175, Tryz.ntmps175
  go_wp2
  go_loopw [10, 11, 12, 13] (fun lv cv av nv wr => ∃ (k v1 v2 : Nat) (yy : Int), lv = .int .i64 v1 ∧ cv = .int .i64 v2 ∧ av = .int .i64 yy ∧ nv = .int .i64 k ∧ k ≤ N ∧ v1 ≤ 2001 ∧ Hid (yy = pl (ap s k p)) ∧ Hid (bst (fun k => R ((sts s p).getD k 0) a e + 1) (N - k) k (v1, v2) = V) ∧ Hid (Ch wr b s u r x y q R X W) ∧ Hid (Below w.heap.size w wr)) (fun _ _ _ nv _ => N - (intOf nv).toNat)
  case atStart => exact ⟨0, 2001, 0, p, rfl, rfl, rfl, rfl, by omega, by omega, hide rfl, HR, HK, hide (Below.refl _ _)⟩
  case round =>
    obtain ⟨k, v1, v2, yy, rfl, rfl, rfl, rfl, hk, hv, hy, hI, hC, hB⟩ := hrel
    cases ho : ap s k p with
    | none =>
      have hyy : yy = -1 := by rw [unhide hy, ho]; rfl
      have hkN : k = N := by
        rw [sts_ap] at ho
        have := List.getElem?_eq_none_iff.1 ho
        rw [unhide HN] at this; omega
      have HV : Hid (V = (v1, v2)) := hide (by
        have := unhide hI
        rw [show N - k = 0 by omega] at this; exact this.symm)
      subst hyy
      clear hI hy ho HL HS
      by_cases hk10 : k < 10
      · go_wp2
        go_ret2
        exact ⟨by rw [unhide HV] <;> rfl, unhide hB⟩
      · go_wp2
        go_ret2
        exact ⟨by rw [unhide HV] <;> rfl, unhide hB⟩
    | some z =>
      have hyy : yy = z := by rw [unhide hy, ho]; rfl
      have hz : z < s.size := ap_ins ins hp ho
      have hkN : k < N := by
        have h' := ho
        rw [sts_ap] at h'
        have := (List.getElem?_eq_some_iff.1 h').1
        rw [unhide HN] at this; exact this
      have hg : (sts s p).getD k 0 = z := by
        rw [List.getD_eq_getElem?_getD, ← sts_ap, ho]; rfl
      have hne : ((z : Int) != -1) = true := pl_ne z
      have HA : Hid (pl (nx s z) = pl (ap s (k + 1) p)) := hide (by rw [ap_nx s k p z ho])
      have c1 := hc1 z
      have hfd := Tryz.fld2 ((wi s z : Nat) : Int) ((bh s z : Nat) : Int) (pl (nx s z)) (begs s z)
      have HL3 := hide (fun w1 h1 => unhide HL w1 z h1 hz)
      have HS3 := hide (fun w1 h1 => unhide HS w1 z h1 hz)
      subst hyy
      by_cases hlt : R z a e + 1 < v1
      · have HI2 : Hid (bst (fun k => R ((sts s p).getD k 0) a e + 1) (N - (k + 1)) (k + 1) (R z a e + 1, k) = V) := hide (by
          have := unhide hI
          rw [show N - k = (N - (k + 1)) + 1 by omega, bst_yes (by rw [hg]; exact hlt), hg] at this; exact this)
        clear hI hy ho HL HS hg hc1
        generalize R z a e = rk at *
        go_wp2_with (first
          | (go_at_call 108; refine (unhide HL3 _ (unhide hC)).mono ?_; rintro e w2 ⟨rfl, k3, rfl⟩)
          | (go_at_call 107; refine (unhide HS3 _ ((unhide hC).below (below_dr (Below.refl _ _) _))).mono ?_; rintro e w4 ⟨rfl, hb4⟩; replace hb4 := hide hb4; unfold spV))
        go_roundw
        case rel => exact ⟨k + 1, rk + 1, k, _, by go_num, rfl, rfl, by go_num, by omega, by omega, HA, HI2, hide ((unhide hC).below ((below_dr (Below.refl _ _) _).trans (unhide hb4))), hide (((below_dr (unhide hB) _)).trans ((unhide hb4).mono (unhide hB).size))⟩
        case measure => simp [intOf]; omega
      · have HI2 : Hid (bst (fun k => R ((sts s p).getD k 0) a e + 1) (N - (k + 1)) (k + 1) (v1, v2) = V) := hide (by
          have := unhide hI
          rw [show N - k = (N - (k + 1)) + 1 by omega, bst_no (by rw [hg]; exact hlt)] at this; exact this)
        clear hI hy ho HL HS hg hc1
        generalize R z a e = rk at *
        go_wp2_with (first
          | (go_at_call 108; refine (unhide HL3 _ (unhide hC)).mono ?_; rintro e w2 ⟨rfl, k3, rfl⟩)
          | (go_at_call 107; refine (unhide HS3 _ ((unhide hC).below (below_dr (Below.refl _ _) _))).mono ?_; rintro e w4 ⟨rfl, hb4⟩; replace hb4 := hide hb4; unfold spV))
        go_roundw
        case rel => exact ⟨k + 1, v1, v2, _, rfl, rfl, rfl, by go_num, by omega, by omega, HA, HI2, hide ((unhide hC).below ((below_dr (Below.refl _ _) _).trans (unhide hb4))), hide (((below_dr (unhide hB) _)).trans ((unhide hb4).mono (unhide hB).size))⟩
        case measure => simp [intOf]; omega
end
end Go.Proofs.YtnfaiaoipeholaaGreatDoor

namespace Go.Proofs.YtnfaiaoipeholaaGreatDoor
open Go.RowKit
section
variable {w : World} {b : Nat} {s u : ByteArray} {r x y q : Nat} {R X W : Tb}
theorem cell_lowd {w : World} {g i old v b o : Nat} (h : b ≠ g) : (Lowd w g i old v).cell? ⟨b, o, none⟩ = w.cell? ⟨b, o, none⟩ := by
  unfold Lowd; split
  · exact World.cell?_setCell_other w _ _ _ (fun e => h (by injection e with e _; exact e.symm))
  · rfl
theorem below_lowd {B g i old v : Nat} {a w : World} (h : Below B a w) (hg : B ≤ g) : Below B a (Lowd w g i old v) := by
  unfold Lowd; split
  · exact h.setCell (p := ⟨g, i, none⟩) hg _
  · exact h
theorem Ch.lowR (h : Ch w b s u r x y q R X W) {p a e v : Nat} (hp : p < s.size) (ha : a ≤ u.size) (he : e ≤ u.size) (hv : v ≤ R p a e) : Ch (Lowd w r (ix u.size p a e) (R p a e) v) b s u r x y q (tbU R p a e v) X W := by
  obtain ⟨⟨n1, n2, n3⟩, ⟨n4, n5, n6⟩, ⟨n7, n8, n9⟩⟩ := h.ne
  exact ⟨(cell_lowd n4).trans h.gram, (cell_lowd n4).trans h.word, (cell_lowd n4).trans h.sl, fun p hp => (cell_lowd n7).trans (h.s0 p hp), fun p hp => (cell_lowd n7).trans (h.s1 p hp), fun p hp => (cell_lowd n7).trans (h.s2 p hp), fun p hp => (cell_lowd n7).trans (h.s3 p hp), h.tr.low hp ha he n4 hv, h.tx.lowO n4 (Ne.symm n1), h.ty.lowO n4 (Ne.symm n2), h.hs, h.hu, h.ne⟩
theorem Ch.lowX (h : Ch w b s u r x y q R X W) {p a e v : Nat} (hp : p < s.size) (ha : a ≤ u.size) (he : e ≤ u.size) (hv : v ≤ X p a e) : Ch (Lowd w x (ix u.size p a e) (X p a e) v) b s u r x y q R (tbU X p a e v) W := by
  obtain ⟨⟨n1, n2, n3⟩, ⟨n4, n5, n6⟩, ⟨n7, n8, n9⟩⟩ := h.ne
  exact ⟨(cell_lowd n5).trans h.gram, (cell_lowd n5).trans h.word, (cell_lowd n5).trans h.sl, fun p hp => (cell_lowd n8).trans (h.s0 p hp), fun p hp => (cell_lowd n8).trans (h.s1 p hp), fun p hp => (cell_lowd n8).trans (h.s2 p hp), fun p hp => (cell_lowd n8).trans (h.s3 p hp), h.tr.lowO n5 n1, h.tx.low hp ha he n5 hv, h.ty.lowO n5 (Ne.symm n3), h.hs, h.hu, h.ne⟩
theorem Ch.lowW (h : Ch w b s u r x y q R X W) {p a e v : Nat} (hp : p < s.size) (ha : a ≤ u.size) (he : e ≤ u.size) (hv : v ≤ W p a e) : Ch (Lowd w y (ix u.size p a e) (W p a e) v) b s u r x y q R X (tbU W p a e v) := by
  obtain ⟨⟨n1, n2, n3⟩, ⟨n4, n5, n6⟩, ⟨n7, n8, n9⟩⟩ := h.ne
  exact ⟨(cell_lowd n6).trans h.gram, (cell_lowd n6).trans h.word, (cell_lowd n6).trans h.sl, fun p hp => (cell_lowd n9).trans (h.s0 p hp), fun p hp => (cell_lowd n9).trans (h.s1 p hp), fun p hp => (cell_lowd n9).trans (h.s2 p hp), fun p hp => (cell_lowd n9).trans (h.s3 p hp), h.tr.lowO n6 n2, h.tx.lowO n6 n3, h.ty.low hp ha he n6 hv, h.hs, h.hu, h.ne⟩
theorem Ch.dr (h : Ch w b s u r x y q R X W) (n : Nat) : Ch (w.drewN n) b s u r x y q R X W := h.below (below_dr (Below.refl _ _) n)
/-- blocks that are not written -/
structure Old (B b r x y : Nat) : Prop where
  r : B ≤ r
  x : B ≤ x
  y : B ≤ y

set_option maxHeartbeats 1000000 in
set_option maxRecDepth 1000000 in
theorem lowerExpression_any (ins : Ins s) (nr : Nrm s u R X W) (h : Ch w b s u r x y q R X W) {B : Nat} (ho : Old B b r x y) (pq aq eq : Int) (p a e : Nat) (hp : p < s.size) (hb : begs s p = true) (hae : a ≤ e) (he : e ≤ u.size) (sd : Sound s u R X W a e) (e1 : pq = p) (e2 : aq = a) (e3 : eq = e) :
    Calls Tryz.prog 173 #[.pointer (some ⟨b, 0, none⟩), .int .i64 pq, .int .i64 aq, .int .i64 eq] w fun f w' => f = .returned (.bool (decide ((exC s R p a e).1 < X p a e))) ∧
      Ch w' b s u r x y q R (tbU X p a e (exC s R p a e).1) (tbU W p a e (rwC (tbU X p a e (exC s R p a e).1) W p a e).1) ∧ Below B w w' := by
  have hu20 := h.hu
  have hs300 := h.hs
  have hB : B ≤ w.heap.size := Nat.le_of_lt (Nat.lt_of_le_of_lt ho.x (lt_cell (h.tx.at_ p a e hp (by omega) he)))
  have sd1 := sd.setX hp hb
  have nr1 := nr.setX (a := a) (b := e) (p := p) (v := (exC s R p a e).1) exC_cap hp hae he hb
  have hv1 := sd.x p hp hb
  have hv2 := sd1.w p hp hb
  have H1 := hide (cexp_any ins nr h pq aq eq p a e hp hb (by omega) he e1 e2 e3)
  generalize hE : exC s R p a e = E at *
  obtain ⟨v1, c1⟩ := E
  simp only at hv1 hv2 nr1 sd1 ⊢
  generalize hX1 : tbU X p a e v1 = X1 at *
  generalize hG : rwC X1 W p a e = G at *
  obtain ⟨v2, c2⟩ := G
  simp only at hv2 ⊢
  have HX := hide (fun (w1 : World) (h1 : Ch w1 b s u r x y q R X W) => lower_any h1.tx pq aq eq v1 p a e v1 hu20 hs300 hp (by omega) he e1 e2 e3 rfl)
  have H2 := hide (fun (w1 : World) (h1 : Ch w1 b s u r x y q R X1 W) => by have := row_any nr1 h1 pq aq eq p a e hp hae he e1 e2 e3; rw [hG] at this; exact this)
  have HY := hide (fun (w1 : World) (h1 : Ch w1 b s u r x y q R X1 W) => lower_any h1.ty pq aq eq v2 p a e v2 hu20 hs300 hp (by omega) he e1 e2 e3 rfl)
  have HC1 := hide (fun (w1 : World) (h1 : Ch w1 b s u r x y q R X W) => by have := h1.lowX hp (show a ≤ u.size by omega) he hv1; rw [hX1] at this; exact this)
  have HC2 := hide (fun (w1 : World) (h1 : Ch w1 b s u r x y q R X1 W) => h1.lowW hp (show a ≤ u.size by omega) he hv2)
  have HK := hide h
  have HO := hide ho
  subst e1 e2 e3
  generalize X p a e = vx at *
  generalize W p a e = vw at *
  generalize tbU W p a e v2 = W1 at *
  generalize ix u.size p a e = i at *
  clear h nr sd sd1 nr1 ho hE hG hX1
  go_enter Tryz.func173, Tryz.ntmps173
  go_wp2_with fail
  refine (unhide H1).mono ?_
  rintro e1' w1 ⟨rfl, hb1⟩
  have hk1 := hide ((unhide HK).below hb1)
  replace hb1 := hide hb1
  unfold two
  go_wp2_with fail
  refine (unhide HX _ (unhide hk1)).mono ?_
  rintro e2' w2 ⟨rfl, n2, rfl⟩
  have hk2 := hide ((unhide HC1 _ (unhide hk1)).dr n2)
  have hb2 : Hid (Below B w ((Lowd w1 x i vx v1).drewN n2)) := hide (below_dr (below_lowd ((unhide hb1).mono hB) (unhide HO).x) _)
  generalize World.drewN _ n2 = w2 at *
  go_wp2_with fail
  refine (unhide H2 _ (unhide hk2)).mono ?_
  rintro e3' w3 ⟨rfl, hb3⟩
  have hk3 := hide ((unhide hk2).below hb3)
  have hb3' : Hid (Below B w w3) := hide ((unhide hb2).trans (hb3.mono (Nat.le_trans hB (unhide hb2).size)))
  clear hb3
  unfold two
  go_wp2_with fail
  refine (unhide HY _ (unhide hk3)).mono ?_
  rintro e4' w4 ⟨rfl, n4, rfl⟩
  have hk4 := hide ((unhide HC2 _ (unhide hk3)).dr n4)
  have hb4 : Hid (Below B w ((Lowd w3 y i vw v2).drewN n4)) := hide (below_dr (below_lowd (unhide hb3') (unhide HO).y) _)
  generalize World.drewN _ n4 = w4 at *
  go_wp2_with fail
  go_ret
  exact ⟨rfl, unhide hk4, unhide hb4⟩
end
end Go.Proofs.YtnfaiaoipeholaaGreatDoor

namespace Go.Proofs.YtnfaiaoipeholaaGreatDoor
open Go.RowKit
/-- the chart while one span is settled -/
structure St (s u : ByteArray) (a e : Nat) (R0 X0 W0 R X W : Tb) : Prop where
  nrm : Nrm s u R X W
  snd : Sound s u R X W a e
  lr : Lwr R0 R a e
  lx : Lwr X0 X a e
  lw : Lwr W0 W a e
/-- what a pass leaves at a place -/
structure Psd (s u : ByteArray) (a e : Nat) (R0 X0 W0 R X W : Tb) (k : Nat) (c : Bool) : Prop where
  st : St s u a e R0 X0 W0 R X W
  no : c = false → X = X0 ∧ Don s u R X W a e k
  yes : c = true → mu s X a e < mu s X0 a e
section
variable {w : World} {b : Nat} {s u : ByteArray} {r x y q : Nat} {R0 X0 W0 R X W : Tb} {a e k : Nat} {c : Bool}
theorem Psd.plain (h : Psd s u a e R0 X0 W0 R X W (k + 1) c) (hk : k < s.size) (hae : a ≤ e) (he : e ≤ u.size) (hb : begs s k = false) :
    Psd s u a e R0 X0 W0 (tbU R k a e (rsC s u R X W k a e).1) X W k c :=
  ⟨⟨h.st.nrm.setR rsC_cap hk hae he, h.st.snd.setR hk, h.st.lr.trans (Lwr.up (h.st.snd.r k hk)), h.st.lx, h.st.lw⟩, fun hc => ⟨(h.no hc).1, (h.no hc).2.setR hb⟩, h.yes⟩
theorem Psd.expr (h : Psd s u a e R0 X0 W0 R X W (k + 1) c) (hk : k < s.size) (hae : a ≤ e) (he : e ≤ u.size) (hb : begs s k = true) {R1 X1 W1 : Tb} (h1 : R1 = tbU R k a e (rsC s u R X W k a e).1) (h2 : X1 = tbU X k a e (exC s R1 k a e).1) (h3 : W1 = tbU W k a e (rwC X1 W k a e).1) :
    Psd s u a e R0 X0 W0 R1 X1 W1 k (c || decide ((exC s R1 k a e).1 < X k a e)) := by
  have s1 : Sound s u R1 X W a e := by rw [h1]; exact h.st.snd.setR hk
  have n1 : Nrm s u R1 X W := by rw [h1]; exact h.st.nrm.setR rsC_cap hk hae he
  have s2 : Sound s u R1 X1 W a e := by rw [h2]; exact s1.setX hk hb
  have n2 : Nrm s u R1 X1 W := by rw [h2]; exact n1.setX exC_cap hk hae he hb
  have s3 : Sound s u R1 X1 W1 a e := by rw [h3]; exact s2.setW hk hb
  have n3 : Nrm s u R1 X1 W1 := by rw [h3]; exact n2.setW (Nat.le_trans rwC_cap (n2.cX _ _ _)) hk hae he hb
  have lx1 : Lwr X X1 a e := by rw [h2]; exact Lwr.up (s1.x k hk hb)
  refine ⟨⟨n3, s3, h.st.lr.trans (by rw [h1]; exact Lwr.up (h.st.snd.r k hk)), h.st.lx.trans lx1, h.st.lw.trans (by rw [h3]; exact Lwr.up (s2.w k hk hb))⟩, fun hc => ?_, fun hc => ?_⟩
  · have hc' : c = false ∧ ¬ (exC s R1 k a e).1 < X k a e := by simpa using hc
    obtain ⟨hc1, hc2⟩ := hc'
    obtain ⟨hx, hd⟩ := h.no hc1
    have he1 : (exC s R1 k a e).1 = X k a e := by have := s1.x k hk hb; omega
    have hX : X1 = X := by rw [h2]; exact tbU_id he1
    refine ⟨hX.trans hx, ?_⟩
    have := hd.setRW R1 h1 he1.symm
    rw [h3, hX]; exact this
  · have hc' : c = true ∨ (exC s R1 k a e).1 < X k a e := by simpa using hc
    rcases hc' with hc1 | hc1
    · exact Nat.lt_of_le_of_lt (mu_le lx1) (h.yes hc1)
    · refine Nat.lt_of_lt_of_le (mu_lt lx1 hk (by rw [h2, tbU_same]; exact hc1)) (mu_le h.st.lx)

set_option maxHeartbeats 1000000 in
set_option maxRecDepth 1000000 in
theorem goOver_any (g : Gram s) (ins : Ins s) (nr : Nrm s u R X W) (h : Ch w b s u r x y q R X W) {B : Nat} (ho : Old B b r x y) (aq eq : Int) (a e : Nat) (hae : a ≤ e) (he : e ≤ u.size) (sd : Sound s u R X W a e) (e2 : aq = a) (e3 : eq = e) :
    Calls Tryz.prog 144 #[.pointer (some ⟨b, 0, none⟩), .int .i64 aq, .int .i64 eq] w fun f w' => ∃ c R' X' W', f = .returned (.bool c) ∧ Ch w' b s u r x y q R' X' W' ∧ Psd s u a e R X W R' X' W' 0 c ∧ Below B w w' := by
  have hu20 := h.hu
  have hs300 := h.hs
  have c0 := h.gram
  have hB : B ≤ w.heap.size := Nat.le_of_lt (Nat.lt_of_le_of_lt ho.x (lt_cell (h.tx.at_ 0 a e g.pos (by omega) he)))
  have hst : Psd s u a e R X W R X W s.size false := ⟨⟨nr, sd, Lwr.refl _ _ _, Lwr.refl _ _ _, Lwr.refl _ _ _⟩, fun _ => ⟨rfl, Don.end_⟩, fun hc => by cases hc⟩
  have HST := hide hst
  have HK := hide h
  have HO := hide ho
  subst e2 e3
  clear nr sd hst ho h
  generalize hPost : (fun (f : Ending) (w' : World) => ∃ c R' X' W', f = .returned (.bool c) ∧ Ch w' b s u r x y q R' X' W' ∧ Psd s u a e R X W R' X' W' 0 c ∧ Below B w w') = Post
  have HP := hide hPost
  clear hPost
  go_enter Tryz.func144, Tryz.ntmps144
  go_wp2
  go_loopw [7, 8] (fun sv pv wr => ∃ (k : Nat) (c : Bool) (R' X' W' : Tb), sv = .bool c ∧ pv = .int .i64 ((k : Int) - 1) ∧ k ≤ s.size ∧ Hid (Ch wr b s u r x y q R' X' W') ∧ Hid (Psd s u a e R X W R' X' W' k c) ∧ Hid (Below B w wr)) (fun _ pv _ => (intOf pv + 1).toNat)
  case atStart => exact ⟨s.size, false, R, X, W, rfl, rfl, Nat.le_refl _, HK, HST, hide (Below.refl _ _)⟩
  case round =>
    obtain ⟨k, c, R1, X1, W1, rfl, rfl, hk, hC, hI, hB1⟩ := hrel
    cases k with
    | zero =>
      clear HK HST
      rw [show ((0 : Nat) : Int) - 1 = -1 from rfl]
      go_wp2
      rw [← unhide HP]
      exact ⟨c, R1, X1, W1, rfl, unhide hC, unhide hI, unhide hB1⟩
    | succ m =>
      rw [show ((m + 1 : Nat) : Int) - 1 = (m : Int) by omega]
      have hm : m < s.size := by omega
      have hst := (unhide hI).st
      have hv1 := hst.snd.r m hm
      have H1 := hide (rest_any g ins hst.nrm (unhide hC) m a e m a e hm hae he rfl rfl rfl)
      have hpl := fun hb => hide ((unhide hI).plain hm hae he hb)
      have hex := fun hb => hide ((unhide hI).expr hm hae he hb rfl rfl rfl)
      have HN := hide (hst.nrm.setR (a := a) (b := e) (rsC_cap (s := s) (u := u) (R := R1) (X := X1) (W := W1) (p := m) (a := a) (b := e)) hm hae he)
      have HSn := hide (hst.snd.setR hm)
      generalize hV : rsC s u R1 X1 W1 m a e = V at *
      obtain ⟨v1, c1⟩ := V
      simp only at hv1 hpl hex HN HSn
      have H2 := hide (fun (w1 : World) (h1 : Ch w1 b s u r x y q R1 X1 W1) => lower_any h1.tr m a e v1 m a e v1 hu20 hs300 hm (by omega) he rfl rfl rfl rfl)
      have HC1 := hide (fun (w1 : World) (h1 : Ch w1 b s u r x y q R1 X1 W1) => h1.lowR hm (show a ≤ u.size by omega) he hv1)
      generalize R1 m a e = vr at *
      generalize ix u.size m a e = i at *
      generalize hR2 : tbU R1 m a e v1 = R2 at *
      clear hst hV HK HST hR2 c0
      go_wp2_with fail
      refine (unhide H1).mono ?_
      rintro e1' w1 ⟨rfl, hb1⟩
      have hk1 := hide ((unhide hC).below hb1)
      have hb1' : Hid (Below B w w1) := hide ((unhide hB1).trans (hb1.mono (Nat.le_trans hB (unhide hB1).size)))
      clear hb1
      unfold two
      go_wp2_with fail
      refine (unhide H2 _ (unhide hk1)).mono ?_
      rintro e2' w2 ⟨rfl, n2, rfl⟩
      have hk2 := hide ((unhide HC1 _ (unhide hk1)).dr n2)
      have hb2 : Hid (Below B w ((Lowd w1 r i vr v1).drewN n2)) := hide (below_dr (below_lowd (unhide hb1') (unhide HO).r) _)
      generalize World.drewN _ n2 = w2 at *
      clear H1 H2 HC1 hk1 hb1' hC hB1 hI
      go_wp2_with fail
      refine (spot_any (unhide hk2) m m hm rfl).mono ?_
      rintro e3' w3 ⟨rfl, hb3⟩
      have hk3 := hide ((unhide hk2).below hb3)
      have hb3' : Hid (Below B w w3) := hide ((unhide hb2).trans (hb3.mono (Nat.le_trans hB (unhide hb2).size)))
      have hk3a : Hid (∀ o, Ch (w3.alloc o) b s u r x y q R2 X1 W1) := hide (fun o => (unhide hk3).below ((Below.refl _ _).alloc (Nat.le_refl _) o))
      have hb3a : Hid (∀ o, Below B w (w3.alloc o)) := hide (fun o => (unhide hb3').alloc (Nat.le_trans hB (unhide hb3').size) o)
      clear hb3 hk2 hb2 hk3 hb3'
      unfold spV
      generalize ((wi s m : Nat) : Int) = z0 at *
      generalize ((bh s m : Nat) : Int) = z1 at *
      generalize pl (nx s m) = z2 at *
      cases hbg : begs s m
      · have HPl := hpl hbg
        clear hex hpl hbg
        go_wp2
        go_roundw
        case rel => exact ⟨m, c, R2, X1, W1, rfl, rfl, by omega, hide (unhide hk3a _), HPl, hide (unhide hb3a _)⟩
        case measure => simp [intOf]; try omega
      · have HEx := hex hbg
        have H4 := hide (fun o => lowerExpression_any ins (unhide HN) (unhide hk3a o) (unhide HO) m a e m a e hm hbg hae he (unhide HSn) rfl rfl rfl)
        generalize hE : exC s R2 m a e = E at *
        obtain ⟨v2, c2⟩ := E
        simp only at HEx H4
        generalize tbU X1 m a e v2 = X2 at *
        generalize rwC X2 W1 m a e = G at *
        obtain ⟨v3, c3⟩ := G
        simp only at HEx H4
        generalize tbU W1 m a e v3 = W2 at *
        generalize X1 m a e = vx at *
        clear hex hpl hbg HN HSn hE hk3a
        by_cases hlow : v2 < vx
        · have hd : decide (v2 < vx) = true := by simpa using hlow
          rw [hd] at H4 HEx
          rw [Bool.or_true] at HEx
          clear hd hlow
          go_wp2_with fail
          refine (unhide H4 _).mono ?_
          rintro e4' w4 ⟨rfl, hk4, hb4⟩
          replace hk4 := hide hk4
          have hb4' : Hid (Below B w w4) := hide ((unhide hb3a _).trans hb4)
          clear hb4
          go_wp2
          go_roundw
          case rel => exact ⟨m, true, R2, X2, W2, rfl, rfl, by omega, hk4, HEx, hb4'⟩
          case measure => simp [intOf]; try omega
        · have hd : decide (v2 < vx) = false := by simpa using hlow
          rw [hd] at H4 HEx
          rw [Bool.or_false] at HEx
          clear hd hlow
          go_wp2_with fail
          refine (unhide H4 _).mono ?_
          rintro e4' w4 ⟨rfl, hk4, hb4⟩
          replace hk4 := hide hk4
          have hb4' : Hid (Below B w w4) := hide ((unhide hb3a _).trans hb4)
          clear hb4
          go_wp2
          go_roundw
          case rel => exact ⟨m, c, R2, X2, W2, rfl, rfl, by omega, hk4, HEx, hb4'⟩
          case measure => simp [intOf]; try omega
end
end Go.Proofs.YtnfaiaoipeholaaGreatDoor

namespace Go.Proofs.YtnfaiaoipeholaaGreatDoor
open Go.RowKit
/-- all that memory tells over a span -/
def muw (s u : ByteArray) (x a e : Nat) (w : World) : Nat := ((List.range s.size).map fun p => match w.cell? ⟨x, ix u.size p a e, none⟩ with
  | some v => (intOf v).toNat
  | none => 0).sum
def boolN (v : Value) : Nat := match v with
  | .bool true => 1
  | _ => 0
theorem boolN_true : boolN (.bool true) = 1 := rfl
theorem boolN_false : boolN (.bool false) = 0 := rfl
section
variable {w : World} {b : Nat} {s u : ByteArray} {r x y q : Nat} {R0 X0 W0 R X W : Tb} {a e : Nat}
theorem muw_mu (h : Ch w b s u r x y q R X W) (ha : a ≤ u.size) (he : e ≤ u.size) : muw s u x a e w = mu s X a e := by
  unfold muw mu
  congr 1
  refine List.map_congr_left (fun p hp => ?_)
  rw [h.tx.at_ p a e (by simpa using hp) ha he]
  simp [intOf]
/-- what settling leaves -/
structure Sttl (s u : ByteArray) (a e : Nat) (R0 X0 W0 R X W : Tb) : Prop where
  st : St s u a e R0 X0 W0 R X W
  fix : FixAt s u R X W a e
theorem St.trans {R1 X1 W1 : Tb} (h : St s u a e R0 X0 W0 R1 X1 W1) (k : St s u a e R1 X1 W1 R X W) : St s u a e R0 X0 W0 R X W :=
  ⟨k.nrm, k.snd, h.lr.trans k.lr, h.lx.trans k.lx, h.lw.trans k.lw⟩
theorem Psd.fixd (h : Psd s u a e R0 X0 W0 R X W 0 false) : FixAt s u R X W a e := (h.no rfl).2.fix

set_option maxHeartbeats 1000000 in
set_option maxRecDepth 1000000 in
theorem settle_any (g : Gram s) (ins : Ins s) (nr : Nrm s u R X W) (h : Ch w b s u r x y q R X W) {B : Nat} (ho : Old B b r x y) (aq eq : Int) (a e : Nat) (hae : a ≤ e) (he : e ≤ u.size) (sd : Sound s u R X W a e) (e2 : aq = a) (e3 : eq = e) :
    Calls Tryz.prog 105 #[.pointer (some ⟨b, 0, none⟩), .int .i64 aq, .int .i64 eq] w fun f w' => ∃ R' X' W', f = .returned (.tuple #[]) ∧ Ch w' b s u r x y q R' X' W' ∧ Sttl s u a e R X W R' X' W' ∧ Below B w w' := by
  have HST : Hid (St s u a e R X W R X W) := hide ⟨nr, sd, Lwr.refl _ _ _, Lwr.refl _ _ _, Lwr.refl _ _ _⟩
  have HK := hide h
  subst e2 e3
  clear nr sd h
  generalize hPost : (fun (f : Ending) (w' : World) => ∃ R' X' W', f = .returned (.tuple #[]) ∧ Ch w' b s u r x y q R' X' W' ∧ Sttl s u a e R X W R' X' W' ∧ Below B w w') = Post
  have HP := hide hPost
  clear hPost
  go_enter Tryz.func105, Tryz.ntmps105
  go_wp2
  go_loopw [6] (fun sv wr => ∃ (c : Bool) (R' X' W' : Tb), sv = .bool c ∧ Hid (Ch wr b s u r x y q R' X' W') ∧ Hid (St s u a e R X W R' X' W') ∧ Hid (c = false → FixAt s u R' X' W' a e) ∧ Hid (Below B w wr)) (fun sv wr => 2 * muw s u x a e wr + boolN sv)
  case atStart => exact ⟨true, R, X, W, rfl, HK, HST, hide (fun hc => by cases hc), hide (Below.refl _ _)⟩
  case round =>
    obtain ⟨c, R1, X1, W1, rfl, hC, hI, hF, hB1⟩ := hrel
    cases c
    · have hfx := hide (unhide hF rfl)
      clear HK HST hF
      go_wp2
      go_end0
      rw [← unhide HP]
      exact ⟨R1, X1, W1, rfl, unhide hC, ⟨unhide hI, unhide hfx⟩, unhide hB1⟩
    · have hm0 := muw_mu (unhide hC) (show a ≤ u.size by omega) he
      have H1 := hide (goOver_any g ins (unhide hI).nrm (unhide hC) ho a e a e hae he (unhide hI).snd rfl rfl)
      clear HK HST hF
      go_wp2_with fail
      refine (unhide H1).mono ?_
      rintro e1' w1 ⟨c, R2, X2, W2, rfl, hC2, hP2, hb2⟩
      have hm2 := muw_mu hC2 (show a ≤ u.size by omega) he
      have hI2 := hide ((unhide hI).trans hP2.st)
      have hB2 : Hid (Below B w w1) := hide ((unhide hB1).trans hb2)
      have hle : mu s X2 a e ≤ mu s X1 a e := mu_le hP2.st.lx
      cases c
      · have hfx := hide hP2.fixd
        replace hC2 := hide hC2
        clear hP2 hb2 H1
        go_wp2
        go_roundw
        case rel => exact ⟨false, R2, X2, W2, rfl, hC2, hI2, hide (fun _ => unhide hfx), hB2⟩
        case measure => simp [boolN_true, boolN_false]; omega
      · have hlt := hP2.yes rfl
        replace hC2 := hide hC2
        clear hP2 hb2 H1
        go_wp2
        go_roundw
        case rel => exact ⟨true, R2, X2, W2, rfl, hC2, hI2, hide (fun hc => by cases hc), hB2⟩
        case measure => simp [boolN_true]; omega

/-- spans that are done, and spans that nothing was told of -/
structure Upto (s u : ByteArray) (R X W : Tb) (L f : Nat) : Prop where
  nrm : Nrm s u R X W
  done : ∀ c d, c ≤ d → d ≤ u.size → d - c < L ∨ (d - c = L ∧ c < f) → FixAt s u R X W c d
  frs : ∀ c d, c ≤ d → d ≤ u.size → ¬ (d - c < L ∨ (d - c = L ∧ c < f)) → Frs R X W c d
theorem Upto.step {R1 X1 W1 : Tb} {L f : Nat} (h : Upto s u R X W L f) (hs : Sttl s u f (f + L) R X W R1 X1 W1) : Upto s u R1 X1 W1 L (f + 1) := by
  refine ⟨hs.st.nrm, fun c d h1 h2 h3 => ?_, fun c d h1 h2 h3 p => ?_⟩
  · by_cases e1 : c = f ∧ d = f + L
    · obtain ⟨rfl, rfl⟩ := e1; exact hs.fix
    · have hk : ∀ c' d', c ≤ c' → d' ≤ d → c' ≤ d' → ¬ (c' = f ∧ d' = f + L) := by omega
      exact (h.done c d h1 h2 (by omega)).keep (fun p c' d' q1 q2 q3 => hs.st.lr.2 p c' d' (hk c' d' q1 q2 q3)) (fun p c' d' q1 q2 q3 => hs.st.lx.2 p c' d' (hk c' d' q1 q2 q3)) (fun p c' d' q1 q2 q3 => hs.st.lw.2 p c' d' (hk c' d' q1 q2 q3)) h1
  · have e1 : ¬ (c = f ∧ d = f + L) := by omega
    have := h.frs c d h1 h2 (by omega) p
    exact ⟨(hs.st.lr.2 p c d e1).trans this.1, (hs.st.lx.2 p c d e1).trans this.2.1, (hs.st.lw.2 p c d e1).trans this.2.2⟩
theorem Upto.next {L f : Nat} (h : Upto s u R X W L f) (hf : u.size < f + L) : Upto s u R X W (L + 1) 0 :=
  ⟨h.nrm, fun c d h1 h2 h3 => h.done c d h1 h2 (by omega), fun c d h1 h2 h3 => h.frs c d h1 h2 (by omega)⟩
theorem Upto.all {L f : Nat} (h : Upto s u R X W L f) (hL : u.size < L) : Fix s u R X W :=
  { h.nrm with fix := fun c d h1 h2 => h.done c d h1 h2 (by omega) }
/-- nothing told yet -/
def emT : Tb := fun _ _ _ => 2001
theorem Upto.start : Upto s u emT emT emT 0 0 :=
  ⟨⟨fun _ _ _ => Nat.le_refl _, fun _ _ _ => Nat.le_refl _, fun _ _ _ => Nat.le_refl _, fun _ _ _ _ => rfl, fun _ _ _ _ => rfl, fun _ _ _ _ => rfl⟩, fun c d h1 h2 h3 => by omega, fun c d h1 h2 h3 p => ⟨rfl, rfl, rfl⟩⟩

set_option maxHeartbeats 1000000 in
set_option maxRecDepth 1000000 in
theorem fill_any (g : Gram s) (ins : Ins s) (h : Ch w b s u r x y q emT emT emT) {B : Nat} (ho : Old B b r x y) :
    Calls Tryz.prog 59 #[.pointer (some ⟨b, 0, none⟩)] w fun f w' => ∃ R' X' W', f = .returned (.tuple #[]) ∧ Ch w' b s u r x y q R' X' W' ∧ Fix s u R' X' W' ∧ Below B w w' := by
  have hu20 := h.hu
  have HK := hide h
  have HU : Hid (Upto s u emT emT emT 0 0) := hide Upto.start
  clear h
  generalize hPost : (fun (f : Ending) (w' : World) => ∃ R' X' W', f = .returned (.tuple #[]) ∧ Ch w' b s u r x y q R' X' W' ∧ Fix s u R' X' W' ∧ Below B w w') = Post
  have HP := hide hPost
  clear hPost
  go_enter Tryz.func59, Tryz.ntmps59
  go_wp2
  go_loopw [2] (fun lv wr => ∃ (L : Nat) (R' X' W' : Tb), lv = .int .i64 L ∧ L ≤ u.size + 1 ∧ Hid (Ch wr b s u r x y q R' X' W') ∧ Hid (Upto s u R' X' W' L 0) ∧ Hid (Below B w wr)) (fun lv _ => u.size + 1 - (intOf lv).toNat)
  case atStart => exact ⟨0, emT, emT, emT, rfl, by omega, HK, HU, hide (Below.refl _ _)⟩
  case round =>
    obtain ⟨L, R1, X1, W1, rfl, hL, hC, hI, hB1⟩ := hrel
    have c1 := (unhide hC).word
    clear HK HU
    by_cases hlt : L ≤ u.size
    · go_wp2
      go_loopw [3] (fun fv wr2 => ∃ (f : Nat) (R' X' W' : Tb), fv = .int .i64 f ∧ f + L ≤ u.size + 1 ∧ Hid (Ch wr2 b s u r x y q R' X' W') ∧ Hid (Upto s u R' X' W' L f) ∧ Hid (Below B w wr2)) (fun fv _ => u.size + 1 - (intOf fv).toNat)
      case atStart => exact ⟨0, R1, X1, W1, rfl, by omega, hC, hI, hB1⟩
      case round =>
        obtain ⟨f, R2, X2, W2, rfl, hf, hC2, hI2, hB2⟩ := hrel
        have c2 := (unhide hC2).word
        by_cases hlt2 : f + L ≤ u.size
        · have H1 := hide (settle_any g ins (unhide hI2).nrm (unhide hC2) ho f ((f : Int) + L) f (f + L) (by omega) hlt2 ((unhide hI2).frs f (f + L) (by omega) hlt2 (by omega)).snd rfl (by omega))
          clear hC hI hB1
          go_wp2_with fail
          refine (unhide H1).mono ?_
          rintro e1' w1 ⟨R3, X3, W3, rfl, hC3, hS3, hb3⟩
          have hI3 := hide ((unhide hI2).step hS3)
          have hB3 : Hid (Below B w w1) := hide ((unhide hB2).trans hb3)
          replace hC3 := hide hC3
          clear hS3 hb3 H1
          go_wp2
          go_roundw
          case rel => exact ⟨f + 1, R3, X3, W3, by go_num, by omega, hC3, hI3, hB3⟩
          case measure => simp [intOf]; omega
        · have hI3 := hide ((unhide hI2).next (by omega))
          clear hI2 hC hI hB1
          go_wp2
          go_roundw
          case rel => exact ⟨L + 1, R2, X2, W2, by go_num, by omega, hC2, hI3, hB2⟩
          case measure => simp [intOf]; omega
    · have hfx := hide ((unhide hI).all (by omega))
      clear hI
      go_wp2
      go_end0
      rw [← unhide HP]
      exact ⟨R1, X1, W1, rfl, unhide hC, unhide hfx, unhide hB1⟩
end
end Go.Proofs.YtnfaiaoipeholaaGreatDoor
