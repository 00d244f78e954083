/- The reference reads what stands in brackets: a walk a case. -/
import Derived.Test.YtnfaiaoipeholaaGreatRTree
namespace Go.Proofs.YtnfaiaoipeholaaGreat
open Go.RowKit
section
variable {s t : ByteArray} {B g : Nat} {most : Int}

set_option maxHeartbeats 1000000 in
set_option maxRecDepth 1000000 in
theorem rbr4 {n : Nat} (hn : n ≤ 2005) (hT : SaidT s t B g most n) (p m f i : Nat) (w : World) (v : Wd w s t B g) (hE : EA w s m (fun b => b < B) p (f + 1)) (hi : i ≤ 2005) (hin : t.size < i + n) (HK : Hid (bt s f = 40 ∨ bt s f = 91 ∨ bt s f = 123 ∨ bt s f = 60)) (hcz : cC (bt s f) ≠ 0) (R : Option (Nat × Nat))
    (HR : Hid (pEl t (pE s t most n (f + 1)) (cC (bt s f)) (decide (bt s f = 123 ∨ bt s f = 60)) most (t.size - i) i 0 0 = R)) (hl : i < t.size) (h1' : ((t[i].toNat : Int) == cC (bt s f)) = true) (h2' : (bt s f != 40) = true) (h3' : (bt s f != 60) = false) :
    Calls Tryz.prog 150 #[.pointer (some ⟨g, 0, none⟩), .agg #[.int .u8 (bt s f), .pointer (some ⟨p, 0, none⟩)], .string t, .int .i64 i, .int .i64 most] w fun e w' => e = rr R ∧ Below w.heap.size w w' := by
  have ht := v.ht
  go_enter Tryz.func150, Tryz.ntmps150
  go_wp2_with (go_at_call 115; refine (rclosing_any _ _).mono ?_; rintro e w' ⟨rfl, hw⟩; subst hw)
  go_loopw [3, 13, 14] (fun iv tv nv wr => ∃ (k top m' : Nat) (cnt : Int), iv = .int .i64 k ∧ tv = .int .i64 top ∧ nv = .int .i64 cnt ∧ Below (w.heap.size + 1) (w.alloc (.cells #[.int .u8 (bt s f), .pointer (some ⟨p, 0, none⟩)] 98)) wr ∧ k ≤ 2010 ∧ i ≤ k ∧ t.size - k ≤ m' ∧ 0 ≤ cnt ∧ cnt ≤ k ∧ top ≤ n ∧ Hid (R = pEl t (pE s t most n (f + 1)) (cC (bt s f)) (decide (bt s f = 123 ∨ bt s f = 60)) most m' k top cnt)) (fun iv _ _ _ => 2011 - (intOf iv).toNat)
  case atStart => exact ⟨i, 0, t.size - i, 0, rfl, rfl, rfl, Below.refl _ _, by omega, by omega, by omega, by omega, by omega, by omega, hide (unhide HR).symm⟩
  case round =>
    obtain ⟨k, top, m', cnt, rfl, rfl, rfl, hb, hk, hik, hkm, hc0, hc1, htop, hN⟩ := hrel
    have hbw : Below w.heap.size w wr := ((Below.refl _ _).alloc (Nat.le_refl _) _).trans (hb.mono (by omega))
    have vw := hide (v.below hbw)
    have Ew := hide (hE.below hbw v.hB)
    have HBW := hide hbw; clear hbw
    by_cases hlt : k < t.size
    · have c0 : wr.cell? ⟨w.heap.size, 0, none⟩ = some (.int .u8 (bt s f)) := (hb.cell (p := ⟨w.heap.size, 0, none⟩) (Nat.lt_succ_self _)).trans (by rw [World.cell?_alloc_new]; rfl)
      have c1 : wr.cell? ⟨w.heap.size, 1, none⟩ = some (.pointer (some ⟨p, 0, none⟩)) := (hb.cell (p := ⟨w.heap.size, 1, none⟩) (Nat.lt_succ_self _)).trans (by rw [World.cell?_alloc_new]; rfl)
      have hsz := hb.size
      have hsz' : w.heap.size < wr.heap.size := by have := hsz; simp at this; omega
      have HB := hide hb; clear hb
      obtain ⟨m1, rfl⟩ : ∃ m1, m' = m1 + 1 := ⟨m' - 1, by omega⟩
      have hN2 := unhide hN
      unfold pEl at hN2
      clear hN
      cases hq : pE s t most n (f + 1) k with
      | none =>
        rw [hq] at hN2
        have HN := hide hN2; have HQ := hide hq; clear hN2 hq
        go_wp2_with fail
        refine (hT _ p (f + 1) m k _ (unhide vw) (unhide Ew) rfl (by omega) (by omega)).mono ?_
        rw [unhide HQ]
        rintro e w2 ⟨rfl, hb2⟩
        simp only [rr]
        have hz2 := hb2.size
        go_wp2
        go_ret2
        exact ⟨by rw [unhide HN]; rfl, (unhide HBW).trans (hb2.mono (by simp at hsz; omega))⟩
      | some y =>
        obtain ⟨j, h⟩ := y
        rw [hq] at hN2
        simp only at hN2
        have hfw := pE_fwd s t most n (f + 1) k j h hq
        have HQ := hide hq; clear hq
        by_cases hjl : j < t.size
        case neg =>
          have hbz := bt_out t j (by omega)
          have hN3 : R = none := by
            rw [hN2]; split
            · rfl
            · rw [if_neg (by rw [hbz]; exact hcz.symm), if_neg (by rw [hbz]; omega)]
          have HN := hide hN3; clear hN2 hN3 hbz
          go_wp2_with fail
          refine (hT _ p (f + 1) m k _ (unhide vw) (unhide Ew) rfl (by omega) (by omega)).mono ?_
          rw [unhide HQ]
          rintro e w2 ⟨rfl, hb2⟩
          simp only [rr]
          have hz2 := hb2.size
          go_wp2
          go_ret2
          exact ⟨by rw [unhide HN]; rfl, (unhide HBW).trans (hb2.mono (by simp at hsz; omega))⟩
        case pos =>
          have hbj := bt_at t j hjl
          by_cases hm : 0 < most ∧ most < cnt + 1
          · rw [if_pos hm] at hN2
            have HN := hide hN2; clear hN2 hbj
            have hm1 := hm.1
            have hm2 := hm.2
            clear hm
            go_wp2_with fail
            refine (hT _ p (f + 1) m k _ (unhide vw) (unhide Ew) rfl (by omega) (by omega)).mono ?_
            rw [unhide HQ]
            rintro e w2 ⟨rfl, hb2⟩
            simp only [rr]
            have hz2 := hb2.size
            go_wp2
            go_ret2
            exact ⟨by rw [unhide HN]; rfl, (unhide HBW).trans (hb2.mono (by simp at hsz; omega))⟩
          · rw [if_neg hm] at hN2
            rw [hbj] at hN2
            have hmc : (0 < most ∧ ¬ most < cnt + 1) ∨ ¬ 0 < most := by omega
            have HMC := hide hmc
            clear hm hmc hbj
            by_cases hb : (t[j].toNat : Int) = cC (bt s f)
            · rw [if_pos hb] at hN2
              have hb' : ((t[j].toNat : Int) == cC (bt s f)) = true := by simp only [beq_iff_eq]; exact hb
              have HN := hide hN2; clear hN2 hb
              rcases unhide HMC with ⟨hm1, hm2⟩ | hm1
              all_goals
                go_wp2_with fail
                refine (hT _ p (f + 1) m k _ (unhide vw) (unhide Ew) rfl (by omega) (by omega)).mono ?_
                rw [unhide HQ]
                rintro e w2 ⟨rfl, hb2⟩
                simp only [rr]
                have hz2 := hb2.size
                go_wp2_with (go_at_call 176; refine (higher_any _ _ _).mono ?_; rintro e w' ⟨rfl, hw⟩; subst hw)
                go_ret2
                exact ⟨by rw [unhide HN]; simp only [rr]; go_num, (unhide HBW).trans (hb2.mono (by simp at hsz; omega))⟩
            · rw [if_neg hb] at hN2
              have hb' : ((t[j].toNat : Int) == cC (bt s f)) = false := by simp only [beq_eq_false_iff_ne]; exact hb
              clear hb
              by_cases hcm : (t[j].toNat : Int) = 44 ∧ decide (bt s f = 123 ∨ bt s f = 60) = true
              · rw [if_pos hcm] at hN2
                have hmk : bt s f = 123 ∨ bt s f = 60 := by simpa using hcm.2
                have h44 : ((t[j].toNat : Int) != 44) = false := by simp [hcm.1]
                have h40 : (bt s f == 40) = false := by simp only [beq_eq_false_iff_ne]; omega
                have h91 : (bt s f == 91) = false := by simp only [beq_eq_false_iff_ne]; omega
                have HN := hide hN2; clear hN2 hcm hmk
                rcases unhide HMC with ⟨hm1, hm2⟩ | hm1
                all_goals
                  go_wp2_with fail
                  refine (hT _ p (f + 1) m k _ (unhide vw) (unhide Ew) rfl (by omega) (by omega)).mono ?_
                  rw [unhide HQ]
                  rintro e w2 ⟨rfl, hb2⟩
                  simp only [rr]
                  have hz2 := hb2.size
                  have d0 := (hb2.cell (p := ⟨w.heap.size, 0, none⟩) hsz').trans c0
                  go_wp2_with (go_at_call 176; refine (higher_any _ _ _).mono ?_; rintro e w' ⟨rfl, hw⟩; subst hw)
                  go_roundw
                  case rel => exact ⟨j + 1, max top h, m1, cnt + 1, by go_num, by go_num, rfl, (unhide HB).trans (hb2.mono (by simp at hsz; omega)), by omega, by omega, by omega, by omega, by omega, by omega, hide (unhide HN)⟩
                  case measure => simp [intOf]; omega
              · rw [if_neg hcm] at hN2
                have hcase2 : Hid (((t[j].toNat : Int) != 44) = true ∨ ((t[j].toNat : Int) != 44) = false ∧ (bt s f == 40) = true ∨ ((t[j].toNat : Int) != 44) = false ∧ (bt s f == 40) = false ∧ (bt s f == 91) = true) := hide (by
                  by_cases e : (t[j].toNat : Int) = 44
                  · right
                    have hnm : ¬ (bt s f = 123 ∨ bt s f = 60) := fun h => hcm ⟨e, by simpa using h⟩
                    by_cases e2 : bt s f = 40
                    · exact .inl ⟨by simp [e], by simp [e2]⟩
                    · have e3 : bt s f = 91 := by have := unhide HK; omega
                      exact .inr ⟨by simp [e], by simp [e2], by simp [e3]⟩
                  · exact .inl (by simp only [bne_iff_ne]; exact e))
                have HN := hide hN2; clear hN2 hcm
                rcases unhide HMC with ⟨hm1, hm2⟩ | hm1
                all_goals
                  rcases unhide hcase2 with h44 | ⟨h44, h40⟩ | ⟨h44, h40, h91⟩
                  all_goals
                    go_wp2_with fail
                    refine (hT _ p (f + 1) m k _ (unhide vw) (unhide Ew) rfl (by omega) (by omega)).mono ?_
                    rw [unhide HQ]
                    rintro e w2 ⟨rfl, hb2⟩
                    simp only [rr]
                    have hz2 := hb2.size
                    have d0 := (hb2.cell (p := ⟨w.heap.size, 0, none⟩) hsz').trans c0
                    go_wp2_with (go_at_call 176; refine (higher_any _ _ _).mono ?_; rintro e w' ⟨rfl, hw⟩; subst hw)
                    go_ret2
                    exact ⟨by rw [unhide HN]; rfl, (unhide HBW).trans (hb2.mono (by simp at hsz; omega))⟩
    · have hN2 := unhide hN
      have hz : pE s t most n (f + 1) k = none := pE_out (by omega)
      have hN3 : R = none := by
        rw [hN2]
        cases m' with
        | zero => rfl
        | succ m1 => unfold pEl; rw [hz]
      have HN := hide hN3; clear hN2 hN3 hN hz
      go_wp2
      go_ret2
      exact ⟨by rw [unhide HN]; rfl, unhide HBW⟩
end
end Go.Proofs.YtnfaiaoipeholaaGreat
