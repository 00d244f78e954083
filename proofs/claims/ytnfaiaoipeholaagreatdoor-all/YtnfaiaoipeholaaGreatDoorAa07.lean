/- RFac RBr1 RBr2 RBr3 RBr4 RBr -/
import Derived.Test.YtnfaiaoipeholaaGreatDoorAa06
namespace Go.Proofs.YtnfaiaoipeholaaGreatDoor
open Go.RowKit
/-- what stands in brackets, to this depth -/
def SaidB (s t : ByteArray) (B g : Nat) (most : Int) (n : Nat) : Prop :=
  ∀ (q : Int) (p m f i : Nat) (w : World), Wd w s t B g → EA w s m (fun b => b < B) p (f + 1) → q = i → i ≤ 2005 → t.size < i + n → cO (bt s f) = true →
    Calls Tryz.prog 127 #[.pointer (some ⟨g, 0, none⟩), .agg #[.int .u8 (bt s f), .pointer (some ⟨p, 0, none⟩)], .string t, .int .i64 q, .int .i64 most] w fun e w' => e = rr (pB s t most (pE s t most n) f i) ∧ Below w.heap.size w w'
section
variable {s t : ByteArray} {B g : Nat} {most : Int}

/-- what a factor's second field holds -/
def SubOk (w : World) (s : ByteArray) (B f : Nat) (v : Value) : Prop :=
  (cO (bt s f) = false ∧ v = .pointer none) ∨ (cO (bt s f) = true ∧ ∃ p m, v = .pointer (some ⟨p, 0, none⟩) ∧ EA w s m (fun b => b < B) p (f + 1))

set_option maxHeartbeats 1000000 in
set_option maxRecDepth 1000000 in
theorem rfactor_any {n : Nat} (hn : n ≤ 2005) (hT : SaidT s t B g most n) (hBr : SaidB s t B g most n) (q : Int) (sv : Value) (f i : Nat) (w : World) (v : Wd w s t B g) (hS : SubOk w s B f sv) (hq : q = i) (hi : i ≤ 2003) (hin : t.size < i + n) (hf : isF s f = true) :
    Calls Tryz.prog 69 #[.pointer (some ⟨g, 0, none⟩), .agg #[.int .u8 (bt s f), sv], .string t, .int .i64 q, .int .i64 most] w fun e w' => e = rr (pF s t most (pE s t most n) f i) ∧ Below w.heap.size w w' := by
  subst hq
  have ht := v.ht
  have hnz : bt s f ≠ 0 := by intro e; rw [isF, e] at hf; exact absurd hf (by decide)
  generalize hR : pF s t most (pE s t most n) f i = R
  unfold pF at hR
  by_cases hl : i < t.size
  case neg =>
    rw [if_pos (by rw [bt_out t i (by omega)]; exact hnz.symm)] at hR
    subst hR
    clear hf hS hnz
    go_enter Tryz.func69, Tryz.ntmps69
    go_wp2_with fail
    go_quiet (fail)
    go_wp2
    go_ret2
    exact ⟨rfl, below_drewN ((Below.refl _ _).alloc (Nat.le_refl _) _) _⟩
  case pos =>
    have hbi := bt_at t i hl
    by_cases h1 : bt t i = bt s f
    case neg =>
      rw [if_pos h1] at hR
      subst hR
      rw [hbi] at h1
      have h1' : ((t[i].toNat : Int) != bt s f) = true := by simp only [bne_iff_ne]; exact h1
      clear hf hS hnz hbi h1
      go_enter Tryz.func69, Tryz.ntmps69
      go_wp2_with fail
      go_quiet (fail)
      go_wp2
      go_ret2
      exact ⟨rfl, below_drewN ((Below.refl _ _).alloc (Nat.le_refl _) _) _⟩
    rw [if_neg (by simp [h1])] at hR
    rw [hbi] at h1
    have h1' : ((t[i].toNat : Int) != bt s f) = false := by simp only [bne_eq_false_iff_eq]; exact h1
    clear hbi h1
    by_cases h2 : cL (bt s f) = true
    · rw [if_pos h2] at hR
      subst hR
      have H2 := hide h2; clear hf hS hnz h2
      go_enter Tryz.func69, Tryz.ntmps69
      go_wp2_with fail
      go_quiet (fail)
      go_wp2_with (first | (go_at_call 78; refine (letter_any _ _).mono ?_; rintro e w' ⟨rfl, hw⟩; subst hw; rw [unhide H2]) | (go_at_call 31; refine (name_any _ _).mono ?_; rintro e w' ⟨rfl, hw⟩; subst hw))
      go_ret2
      exact ⟨by simp only [rr]; go_num, below_drewN ((Below.refl _ _).alloc (Nat.le_refl _) _) _⟩
    rw [if_neg h2] at hR
    have h2f : cL (bt s f) = false := by simpa using h2
    have H2 := hide h2f
    by_cases h3 : cN (bt s f) = true
    case neg =>
      rw [if_neg h3] at hR
      subst hR
      have h3f : cN (bt s f) = false := by simpa using h3
      have H3 := hide h3f
      have hop : cO (bt s f) = true := by simpa [isF, h2f, h3f] using hf
      rcases hS with ⟨e, _⟩ | ⟨_, p, m, rfl, hE⟩
      · rw [e] at hop; cases hop
      have HO := hide hop
      have hbb : Below w.heap.size w (w.alloc (.cells #[.int .u8 (bt s f), .pointer (some ⟨p, 0, none⟩)] 67)) := (Below.refl _ _).alloc (Nat.le_refl _) _
      clear hf hnz h2 h3 h2f h3f hop
      go_enter Tryz.func69, Tryz.ntmps69
      go_wp2_with fail
      go_quiet (fail)
      go_wp2_with (first | (go_at_call 78; refine (letter_any _ _).mono ?_; rintro e w' ⟨rfl, hw⟩; subst hw; rw [unhide H2]) | (go_at_call 31; refine (name_any _ _).mono ?_; rintro e w' ⟨rfl, hw⟩; subst hw; rw [unhide H3]))
      refine (hBr _ p m f (i + 1) _ (v.below (below_drewN hbb _)) (hE.below (below_drewN hbb _) v.hB) (by omega) (by omega) (by omega) (unhide HO)).mono ?_
      rintro e w2 ⟨he, hb2⟩
      obtain ⟨a, b, hab⟩ := rr_form (pB s t most (pE s t most n) f (i + 1))
      rw [hab] at he
      subst he
      have HAB := hide hab; clear hab
      go_wp2
      go_ret2
      exact ⟨(unhide HAB).symm, (below_drewN hbb _).trans (hb2.mono (by simp))⟩
    case pos =>
      rw [if_pos h3] at hR
      subst hR
      have hcO : cO (bt s f) = false := by
        have hv : 65 ≤ bt s f ∧ bt s f ≤ 90 := by simpa [cN] using h3
        cases e : cO (bt s f)
        · rfl
        · have := cO_vals e; omega
      rcases hS with ⟨_, rfl⟩ | ⟨e, _⟩
      · exact rname_any hn hT f i w v hi hin hl h1' h3 h2f
      · rw [e] at hcO; cases hcO
end
end Go.Proofs.YtnfaiaoipeholaaGreatDoor

namespace Go.Proofs.YtnfaiaoipeholaaGreatDoor
open Go.RowKit
section
variable {s t : ByteArray} {B g : Nat} {most : Int}

set_option maxHeartbeats 1000000 in
set_option maxRecDepth 1000000 in
theorem rbr1 {n : Nat} (p f i : Nat) (w : World) (v : Wd w s t B g) (hi : i ≤ 2005) (R : Option (Nat × Nat))
    (HR : Hid (pEl t (pE s t most n (f + 1)) (cC (bt s f)) (decide (bt s f = 123 ∨ bt s f = 60)) most (t.size - i) i 0 0 = R)) (h1' : ¬ i < t.size) :
    Calls Tryz.prog 127 #[.pointer (some ⟨g, 0, none⟩), .agg #[.int .u8 (bt s f), .pointer (some ⟨p, 0, none⟩)], .string t, .int .i64 i, .int .i64 most] w fun e w' => e = rr R ∧ Below w.heap.size w w' := by
  have ht := v.ht
  go_enter Tryz.func127, Tryz.ntmps127
  go_wp2_with (go_at_call 74; refine (rclosing_any _ _).mono ?_; rintro e w' ⟨rfl, hw⟩; subst hw)
  go_loopw [3, 13, 14] (fun iv tv nv wr => ∃ (k top m' : Nat) (cnt : Int), iv = .int .i64 k ∧ tv = .int .i64 top ∧ nv = .int .i64 cnt ∧ Below (w.heap.size + 1) (w.alloc (.cells #[.int .u8 (bt s f), .pointer (some ⟨p, 0, none⟩)] 67)) wr ∧ k ≤ 2010 ∧ i ≤ k ∧ t.size - k ≤ m' ∧ 0 ≤ cnt ∧ cnt ≤ k ∧ top ≤ n ∧ Hid (R = pEl t (pE s t most n (f + 1)) (cC (bt s f)) (decide (bt s f = 123 ∨ bt s f = 60)) most m' k top cnt)) (fun iv _ _ _ => 2011 - (intOf iv).toNat)
  case atStart => exact ⟨i, 0, t.size - i, 0, rfl, rfl, rfl, Below.refl _ _, by omega, by omega, by omega, by omega, by omega, by omega, hide (unhide HR).symm⟩
  case round =>
    obtain ⟨k, top, m', cnt, rfl, rfl, rfl, hb, hk, hik, hkm, hc0, hc1, htop, hN⟩ := hrel
    have hbw : Below w.heap.size w wr := ((Below.refl _ _).alloc (Nat.le_refl _) _).trans (hb.mono (by omega))
    have HBW := hide hbw; clear hbw
    by_cases hlt : k < t.size
    · omega
    · have hN2 := unhide hN
      have hz : pE s t most n (f + 1) k = none := pE_out (by omega)
      have hN3 : R = none := by
        rw [hN2]
        cases m' with
        | zero => rfl
        | succ m1 => unfold pEl; rw [hz]
      have HN := hide hN3; clear hN2 hN3 hN hz
      go_wp2
      go_ret2
      exact ⟨by rw [unhide HN]; rfl, unhide HBW⟩
end
end Go.Proofs.YtnfaiaoipeholaaGreatDoor

namespace Go.Proofs.YtnfaiaoipeholaaGreatDoor
open Go.RowKit
section
variable {s t : ByteArray} {B g : Nat} {most : Int}

set_option maxHeartbeats 1000000 in
set_option maxRecDepth 1000000 in
theorem rbr2 {n : Nat} (hn : n ≤ 2005) (hT : SaidT s t B g most n) (p m f i : Nat) (w : World) (v : Wd w s t B g) (hE : EA w s m (fun b => b < B) p (f + 1)) (hi : i ≤ 2005) (hin : t.size < i + n) (HK : Hid (bt s f = 40 ∨ bt s f = 91 ∨ bt s f = 123 ∨ bt s f = 60)) (hcz : cC (bt s f) ≠ 0) (R : Option (Nat × Nat))
    (HR : Hid (pEl t (pE s t most n (f + 1)) (cC (bt s f)) (decide (bt s f = 123 ∨ bt s f = 60)) most (t.size - i) i 0 0 = R)) (hl : i < t.size) (h1' : ((t[i].toNat : Int) == cC (bt s f)) = false) :
    Calls Tryz.prog 127 #[.pointer (some ⟨g, 0, none⟩), .agg #[.int .u8 (bt s f), .pointer (some ⟨p, 0, none⟩)], .string t, .int .i64 i, .int .i64 most] w fun e w' => e = rr R ∧ Below w.heap.size w w' := by
  have ht := v.ht
  go_enter Tryz.func127, Tryz.ntmps127
  go_wp2_with (go_at_call 74; refine (rclosing_any _ _).mono ?_; rintro e w' ⟨rfl, hw⟩; subst hw)
  go_loopw [3, 13, 14] (fun iv tv nv wr => ∃ (k top m' : Nat) (cnt : Int), iv = .int .i64 k ∧ tv = .int .i64 top ∧ nv = .int .i64 cnt ∧ Below (w.heap.size + 1) (w.alloc (.cells #[.int .u8 (bt s f), .pointer (some ⟨p, 0, none⟩)] 67)) wr ∧ k ≤ 2010 ∧ i ≤ k ∧ t.size - k ≤ m' ∧ 0 ≤ cnt ∧ cnt ≤ k ∧ top ≤ n ∧ Hid (R = pEl t (pE s t most n (f + 1)) (cC (bt s f)) (decide (bt s f = 123 ∨ bt s f = 60)) most m' k top cnt)) (fun iv _ _ _ => 2011 - (intOf iv).toNat)
  case atStart => exact ⟨i, 0, t.size - i, 0, rfl, rfl, rfl, Below.refl _ _, by omega, by omega, by omega, by omega, by omega, by omega, hide (unhide HR).symm⟩
  case round =>
    obtain ⟨k, top, m', cnt, rfl, rfl, rfl, hb, hk, hik, hkm, hc0, hc1, htop, hN⟩ := hrel
    have hbw : Below w.heap.size w wr := ((Below.refl _ _).alloc (Nat.le_refl _) _).trans (hb.mono (by omega))
    have vw := hide (v.below hbw)
    have Ew := hide (hE.below hbw v.hB)
    have HBW := hide hbw; clear hbw
    by_cases hlt : k < t.size
    · have c0 : wr.cell? ⟨w.heap.size, 0, none⟩ = some (.int .u8 (bt s f)) := (hb.cell (p := ⟨w.heap.size, 0, none⟩) (Nat.lt_succ_self _)).trans (by rw [World.cell?_alloc_new]; rfl)
      have c1 : wr.cell? ⟨w.heap.size, 1, none⟩ = some (.pointer (some ⟨p, 0, none⟩)) := (hb.cell (p := ⟨w.heap.size, 1, none⟩) (Nat.lt_succ_self _)).trans (by rw [World.cell?_alloc_new]; rfl)
      have hsz := hb.size
      have hsz' : w.heap.size < wr.heap.size := by have := hsz; simp at this; omega
      have HB := hide hb; clear hb
      obtain ⟨m1, rfl⟩ : ∃ m1, m' = m1 + 1 := ⟨m' - 1, by omega⟩
      have hN2 := unhide hN
      unfold pEl at hN2
      clear hN
      cases hq : pE s t most n (f + 1) k with
      | none =>
        rw [hq] at hN2
        have HN := hide hN2; have HQ := hide hq; clear hN2 hq
        go_wp2_with fail
        refine (hT _ p (f + 1) m k _ (unhide vw) (unhide Ew) rfl (by omega) (by omega)).mono ?_
        rw [unhide HQ]
        rintro e w2 ⟨rfl, hb2⟩
        simp only [rr]
        have hz2 := hb2.size
        go_wp2
        go_ret2
        exact ⟨by rw [unhide HN]; rfl, (unhide HBW).trans (hb2.mono (by simp at hsz; omega))⟩
      | some y =>
        obtain ⟨j, h⟩ := y
        rw [hq] at hN2
        simp only at hN2
        have hfw := pE_fwd s t most n (f + 1) k j h hq
        have HQ := hide hq; clear hq
        by_cases hjl : j < t.size
        case neg =>
          have hbz := bt_out t j (by omega)
          have hN3 : R = none := by
            rw [hN2]; split
            · rfl
            · rw [if_neg (by rw [hbz]; exact hcz.symm), if_neg (by rw [hbz]; omega)]
          have HN := hide hN3; clear hN2 hN3 hbz
          go_wp2_with fail
          refine (hT _ p (f + 1) m k _ (unhide vw) (unhide Ew) rfl (by omega) (by omega)).mono ?_
          rw [unhide HQ]
          rintro e w2 ⟨rfl, hb2⟩
          simp only [rr]
          have hz2 := hb2.size
          go_wp2
          go_ret2
          exact ⟨by rw [unhide HN]; rfl, (unhide HBW).trans (hb2.mono (by simp at hsz; omega))⟩
        case pos =>
          have hbj := bt_at t j hjl
          by_cases hm : 0 < most ∧ most < cnt + 1
          · rw [if_pos hm] at hN2
            have HN := hide hN2; clear hN2 hbj
            have hm1 := hm.1
            have hm2 := hm.2
            clear hm
            go_wp2_with fail
            refine (hT _ p (f + 1) m k _ (unhide vw) (unhide Ew) rfl (by omega) (by omega)).mono ?_
            rw [unhide HQ]
            rintro e w2 ⟨rfl, hb2⟩
            simp only [rr]
            have hz2 := hb2.size
            go_wp2
            go_ret2
            exact ⟨by rw [unhide HN]; rfl, (unhide HBW).trans (hb2.mono (by simp at hsz; omega))⟩
          · rw [if_neg hm] at hN2
            rw [hbj] at hN2
            have hmc : (0 < most ∧ ¬ most < cnt + 1) ∨ ¬ 0 < most := by omega
            have HMC := hide hmc
            clear hm hmc hbj
            by_cases hb : (t[j].toNat : Int) = cC (bt s f)
            · rw [if_pos hb] at hN2
              have hb' : ((t[j].toNat : Int) == cC (bt s f)) = true := by simp only [beq_iff_eq]; exact hb
              have HN := hide hN2; clear hN2 hb
              rcases unhide HMC with ⟨hm1, hm2⟩ | hm1
              all_goals
                go_wp2_with fail
                refine (hT _ p (f + 1) m k _ (unhide vw) (unhide Ew) rfl (by omega) (by omega)).mono ?_
                rw [unhide HQ]
                rintro e w2 ⟨rfl, hb2⟩
                simp only [rr]
                have hz2 := hb2.size
                go_wp2_with (go_at_call 158; refine (higher_any _ _ _).mono ?_; rintro e w' ⟨rfl, hw⟩; subst hw)
                go_ret2
                exact ⟨by rw [unhide HN]; simp only [rr]; go_num, (unhide HBW).trans (hb2.mono (by simp at hsz; omega))⟩
            · rw [if_neg hb] at hN2
              have hb' : ((t[j].toNat : Int) == cC (bt s f)) = false := by simp only [beq_eq_false_iff_ne]; exact hb
              clear hb
              by_cases hcm : (t[j].toNat : Int) = 44 ∧ decide (bt s f = 123 ∨ bt s f = 60) = true
              · rw [if_pos hcm] at hN2
                have hmk : bt s f = 123 ∨ bt s f = 60 := by simpa using hcm.2
                have h44 : ((t[j].toNat : Int) != 44) = false := by simp [hcm.1]
                have h40 : (bt s f == 40) = false := by simp only [beq_eq_false_iff_ne]; omega
                have h91 : (bt s f == 91) = false := by simp only [beq_eq_false_iff_ne]; omega
                have HN := hide hN2; clear hN2 hcm hmk
                rcases unhide HMC with ⟨hm1, hm2⟩ | hm1
                all_goals
                  go_wp2_with fail
                  refine (hT _ p (f + 1) m k _ (unhide vw) (unhide Ew) rfl (by omega) (by omega)).mono ?_
                  rw [unhide HQ]
                  rintro e w2 ⟨rfl, hb2⟩
                  simp only [rr]
                  have hz2 := hb2.size
                  have d0 := (hb2.cell (p := ⟨w.heap.size, 0, none⟩) hsz').trans c0
                  go_wp2_with (go_at_call 158; refine (higher_any _ _ _).mono ?_; rintro e w' ⟨rfl, hw⟩; subst hw)
                  go_roundw
                  case rel => exact ⟨j + 1, max top h, m1, cnt + 1, by go_num, by go_num, rfl, (unhide HB).trans (hb2.mono (by simp at hsz; omega)), by omega, by omega, by omega, by omega, by omega, by omega, hide (unhide HN)⟩
                  case measure => simp [intOf]; omega
              · rw [if_neg hcm] at hN2
                have hcase2 : Hid (((t[j].toNat : Int) != 44) = true ∨ ((t[j].toNat : Int) != 44) = false ∧ (bt s f == 40) = true ∨ ((t[j].toNat : Int) != 44) = false ∧ (bt s f == 40) = false ∧ (bt s f == 91) = true) := hide (by
                  by_cases e : (t[j].toNat : Int) = 44
                  · right
                    have hnm : ¬ (bt s f = 123 ∨ bt s f = 60) := fun h => hcm ⟨e, by simpa using h⟩
                    by_cases e2 : bt s f = 40
                    · exact .inl ⟨by simp [e], by simp [e2]⟩
                    · have e3 : bt s f = 91 := by have := unhide HK; omega
                      exact .inr ⟨by simp [e], by simp [e2], by simp [e3]⟩
                  · exact .inl (by simp only [bne_iff_ne]; exact e))
                have HN := hide hN2; clear hN2 hcm
                rcases unhide HMC with ⟨hm1, hm2⟩ | hm1
                all_goals
                  rcases unhide hcase2 with h44 | ⟨h44, h40⟩ | ⟨h44, h40, h91⟩
                  all_goals
                    go_wp2_with fail
                    refine (hT _ p (f + 1) m k _ (unhide vw) (unhide Ew) rfl (by omega) (by omega)).mono ?_
                    rw [unhide HQ]
                    rintro e w2 ⟨rfl, hb2⟩
                    simp only [rr]
                    have hz2 := hb2.size
                    have d0 := (hb2.cell (p := ⟨w.heap.size, 0, none⟩) hsz').trans c0
                    go_wp2_with (go_at_call 158; refine (higher_any _ _ _).mono ?_; rintro e w' ⟨rfl, hw⟩; subst hw)
                    go_ret2
                    exact ⟨by rw [unhide HN]; rfl, (unhide HBW).trans (hb2.mono (by simp at hsz; omega))⟩
    · have hN2 := unhide hN
      have hz : pE s t most n (f + 1) k = none := pE_out (by omega)
      have hN3 : R = none := by
        rw [hN2]
        cases m' with
        | zero => rfl
        | succ m1 => unfold pEl; rw [hz]
      have HN := hide hN3; clear hN2 hN3 hN hz
      go_wp2
      go_ret2
      exact ⟨by rw [unhide HN]; rfl, unhide HBW⟩
end
end Go.Proofs.YtnfaiaoipeholaaGreatDoor

namespace Go.Proofs.YtnfaiaoipeholaaGreatDoor
open Go.RowKit
section
variable {s t : ByteArray} {B g : Nat} {most : Int}

set_option maxHeartbeats 1000000 in
set_option maxRecDepth 1000000 in
theorem rbr3 {n : Nat} (hn : n ≤ 2005) (hT : SaidT s t B g most n) (p m f i : Nat) (w : World) (v : Wd w s t B g) (hE : EA w s m (fun b => b < B) p (f + 1)) (hi : i ≤ 2005) (hin : t.size < i + n) (HK : Hid (bt s f = 40 ∨ bt s f = 91 ∨ bt s f = 123 ∨ bt s f = 60)) (hcz : cC (bt s f) ≠ 0) (R : Option (Nat × Nat))
    (HR : Hid (pEl t (pE s t most n (f + 1)) (cC (bt s f)) (decide (bt s f = 123 ∨ bt s f = 60)) most (t.size - i) i 0 0 = R)) (hl : i < t.size) (h1' : ((t[i].toNat : Int) == cC (bt s f)) = true) (h2' : (bt s f != 40) = false) :
    Calls Tryz.prog 127 #[.pointer (some ⟨g, 0, none⟩), .agg #[.int .u8 (bt s f), .pointer (some ⟨p, 0, none⟩)], .string t, .int .i64 i, .int .i64 most] w fun e w' => e = rr R ∧ Below w.heap.size w w' := by
  have ht := v.ht
  go_enter Tryz.func127, Tryz.ntmps127
  go_wp2_with (go_at_call 74; refine (rclosing_any _ _).mono ?_; rintro e w' ⟨rfl, hw⟩; subst hw)
  go_loopw [3, 13, 14] (fun iv tv nv wr => ∃ (k top m' : Nat) (cnt : Int), iv = .int .i64 k ∧ tv = .int .i64 top ∧ nv = .int .i64 cnt ∧ Below (w.heap.size + 1) (w.alloc (.cells #[.int .u8 (bt s f), .pointer (some ⟨p, 0, none⟩)] 67)) wr ∧ k ≤ 2010 ∧ i ≤ k ∧ t.size - k ≤ m' ∧ 0 ≤ cnt ∧ cnt ≤ k ∧ top ≤ n ∧ Hid (R = pEl t (pE s t most n (f + 1)) (cC (bt s f)) (decide (bt s f = 123 ∨ bt s f = 60)) most m' k top cnt)) (fun iv _ _ _ => 2011 - (intOf iv).toNat)
  case atStart => exact ⟨i, 0, t.size - i, 0, rfl, rfl, rfl, Below.refl _ _, by omega, by omega, by omega, by omega, by omega, by omega, hide (unhide HR).symm⟩
  case round =>
    obtain ⟨k, top, m', cnt, rfl, rfl, rfl, hb, hk, hik, hkm, hc0, hc1, htop, hN⟩ := hrel
    have hbw : Below w.heap.size w wr := ((Below.refl _ _).alloc (Nat.le_refl _) _).trans (hb.mono (by omega))
    have vw := hide (v.below hbw)
    have Ew := hide (hE.below hbw v.hB)
    have HBW := hide hbw; clear hbw
    by_cases hlt : k < t.size
    · have c0 : wr.cell? ⟨w.heap.size, 0, none⟩ = some (.int .u8 (bt s f)) := (hb.cell (p := ⟨w.heap.size, 0, none⟩) (Nat.lt_succ_self _)).trans (by rw [World.cell?_alloc_new]; rfl)
      have c1 : wr.cell? ⟨w.heap.size, 1, none⟩ = some (.pointer (some ⟨p, 0, none⟩)) := (hb.cell (p := ⟨w.heap.size, 1, none⟩) (Nat.lt_succ_self _)).trans (by rw [World.cell?_alloc_new]; rfl)
      have hsz := hb.size
      have hsz' : w.heap.size < wr.heap.size := by have := hsz; simp at this; omega
      have HB := hide hb; clear hb
      obtain ⟨m1, rfl⟩ : ∃ m1, m' = m1 + 1 := ⟨m' - 1, by omega⟩
      have hN2 := unhide hN
      unfold pEl at hN2
      clear hN
      cases hq : pE s t most n (f + 1) k with
      | none =>
        rw [hq] at hN2
        have HN := hide hN2; have HQ := hide hq; clear hN2 hq
        go_wp2_with fail
        refine (hT _ p (f + 1) m k _ (unhide vw) (unhide Ew) rfl (by omega) (by omega)).mono ?_
        rw [unhide HQ]
        rintro e w2 ⟨rfl, hb2⟩
        simp only [rr]
        have hz2 := hb2.size
        go_wp2
        go_ret2
        exact ⟨by rw [unhide HN]; rfl, (unhide HBW).trans (hb2.mono (by simp at hsz; omega))⟩
      | some y =>
        obtain ⟨j, h⟩ := y
        rw [hq] at hN2
        simp only at hN2
        have hfw := pE_fwd s t most n (f + 1) k j h hq
        have HQ := hide hq; clear hq
        by_cases hjl : j < t.size
        case neg =>
          have hbz := bt_out t j (by omega)
          have hN3 : R = none := by
            rw [hN2]; split
            · rfl
            · rw [if_neg (by rw [hbz]; exact hcz.symm), if_neg (by rw [hbz]; omega)]
          have HN := hide hN3; clear hN2 hN3 hbz
          go_wp2_with fail
          refine (hT _ p (f + 1) m k _ (unhide vw) (unhide Ew) rfl (by omega) (by omega)).mono ?_
          rw [unhide HQ]
          rintro e w2 ⟨rfl, hb2⟩
          simp only [rr]
          have hz2 := hb2.size
          go_wp2
          go_ret2
          exact ⟨by rw [unhide HN]; rfl, (unhide HBW).trans (hb2.mono (by simp at hsz; omega))⟩
        case pos =>
          have hbj := bt_at t j hjl
          by_cases hm : 0 < most ∧ most < cnt + 1
          · rw [if_pos hm] at hN2
            have HN := hide hN2; clear hN2 hbj
            have hm1 := hm.1
            have hm2 := hm.2
            clear hm
            go_wp2_with fail
            refine (hT _ p (f + 1) m k _ (unhide vw) (unhide Ew) rfl (by omega) (by omega)).mono ?_
            rw [unhide HQ]
            rintro e w2 ⟨rfl, hb2⟩
            simp only [rr]
            have hz2 := hb2.size
            go_wp2
            go_ret2
            exact ⟨by rw [unhide HN]; rfl, (unhide HBW).trans (hb2.mono (by simp at hsz; omega))⟩
          · rw [if_neg hm] at hN2
            rw [hbj] at hN2
            have hmc : (0 < most ∧ ¬ most < cnt + 1) ∨ ¬ 0 < most := by omega
            have HMC := hide hmc
            clear hm hmc hbj
            by_cases hb : (t[j].toNat : Int) = cC (bt s f)
            · rw [if_pos hb] at hN2
              have hb' : ((t[j].toNat : Int) == cC (bt s f)) = true := by simp only [beq_iff_eq]; exact hb
              have HN := hide hN2; clear hN2 hb
              rcases unhide HMC with ⟨hm1, hm2⟩ | hm1
              all_goals
                go_wp2_with fail
                refine (hT _ p (f + 1) m k _ (unhide vw) (unhide Ew) rfl (by omega) (by omega)).mono ?_
                rw [unhide HQ]
                rintro e w2 ⟨rfl, hb2⟩
                simp only [rr]
                have hz2 := hb2.size
                go_wp2_with (go_at_call 158; refine (higher_any _ _ _).mono ?_; rintro e w' ⟨rfl, hw⟩; subst hw)
                go_ret2
                exact ⟨by rw [unhide HN]; simp only [rr]; go_num, (unhide HBW).trans (hb2.mono (by simp at hsz; omega))⟩
            · rw [if_neg hb] at hN2
              have hb' : ((t[j].toNat : Int) == cC (bt s f)) = false := by simp only [beq_eq_false_iff_ne]; exact hb
              clear hb
              by_cases hcm : (t[j].toNat : Int) = 44 ∧ decide (bt s f = 123 ∨ bt s f = 60) = true
              · rw [if_pos hcm] at hN2
                have hmk : bt s f = 123 ∨ bt s f = 60 := by simpa using hcm.2
                have h44 : ((t[j].toNat : Int) != 44) = false := by simp [hcm.1]
                have h40 : (bt s f == 40) = false := by simp only [beq_eq_false_iff_ne]; omega
                have h91 : (bt s f == 91) = false := by simp only [beq_eq_false_iff_ne]; omega
                have HN := hide hN2; clear hN2 hcm hmk
                rcases unhide HMC with ⟨hm1, hm2⟩ | hm1
                all_goals
                  go_wp2_with fail
                  refine (hT _ p (f + 1) m k _ (unhide vw) (unhide Ew) rfl (by omega) (by omega)).mono ?_
                  rw [unhide HQ]
                  rintro e w2 ⟨rfl, hb2⟩
                  simp only [rr]
                  have hz2 := hb2.size
                  have d0 := (hb2.cell (p := ⟨w.heap.size, 0, none⟩) hsz').trans c0
                  go_wp2_with (go_at_call 158; refine (higher_any _ _ _).mono ?_; rintro e w' ⟨rfl, hw⟩; subst hw)
                  go_roundw
                  case rel => exact ⟨j + 1, max top h, m1, cnt + 1, by go_num, by go_num, rfl, (unhide HB).trans (hb2.mono (by simp at hsz; omega)), by omega, by omega, by omega, by omega, by omega, by omega, hide (unhide HN)⟩
                  case measure => simp [intOf]; omega
              · rw [if_neg hcm] at hN2
                have hcase2 : Hid (((t[j].toNat : Int) != 44) = true ∨ ((t[j].toNat : Int) != 44) = false ∧ (bt s f == 40) = true ∨ ((t[j].toNat : Int) != 44) = false ∧ (bt s f == 40) = false ∧ (bt s f == 91) = true) := hide (by
                  by_cases e : (t[j].toNat : Int) = 44
                  · right
                    have hnm : ¬ (bt s f = 123 ∨ bt s f = 60) := fun h => hcm ⟨e, by simpa using h⟩
                    by_cases e2 : bt s f = 40
                    · exact .inl ⟨by simp [e], by simp [e2]⟩
                    · have e3 : bt s f = 91 := by have := unhide HK; omega
                      exact .inr ⟨by simp [e], by simp [e2], by simp [e3]⟩
                  · exact .inl (by simp only [bne_iff_ne]; exact e))
                have HN := hide hN2; clear hN2 hcm
                rcases unhide HMC with ⟨hm1, hm2⟩ | hm1
                all_goals
                  rcases unhide hcase2 with h44 | ⟨h44, h40⟩ | ⟨h44, h40, h91⟩
                  all_goals
                    go_wp2_with fail
                    refine (hT _ p (f + 1) m k _ (unhide vw) (unhide Ew) rfl (by omega) (by omega)).mono ?_
                    rw [unhide HQ]
                    rintro e w2 ⟨rfl, hb2⟩
                    simp only [rr]
                    have hz2 := hb2.size
                    have d0 := (hb2.cell (p := ⟨w.heap.size, 0, none⟩) hsz').trans c0
                    go_wp2_with (go_at_call 158; refine (higher_any _ _ _).mono ?_; rintro e w' ⟨rfl, hw⟩; subst hw)
                    go_ret2
                    exact ⟨by rw [unhide HN]; rfl, (unhide HBW).trans (hb2.mono (by simp at hsz; omega))⟩
    · have hN2 := unhide hN
      have hz : pE s t most n (f + 1) k = none := pE_out (by omega)
      have hN3 : R = none := by
        rw [hN2]
        cases m' with
        | zero => rfl
        | succ m1 => unfold pEl; rw [hz]
      have HN := hide hN3; clear hN2 hN3 hN hz
      go_wp2
      go_ret2
      exact ⟨by rw [unhide HN]; rfl, unhide HBW⟩
end
end Go.Proofs.YtnfaiaoipeholaaGreatDoor

namespace Go.Proofs.YtnfaiaoipeholaaGreatDoor
open Go.RowKit
section
variable {s t : ByteArray} {B g : Nat} {most : Int}

set_option maxHeartbeats 1000000 in
set_option maxRecDepth 1000000 in
theorem rbr4 {n : Nat} (hn : n ≤ 2005) (hT : SaidT s t B g most n) (p m f i : Nat) (w : World) (v : Wd w s t B g) (hE : EA w s m (fun b => b < B) p (f + 1)) (hi : i ≤ 2005) (hin : t.size < i + n) (HK : Hid (bt s f = 40 ∨ bt s f = 91 ∨ bt s f = 123 ∨ bt s f = 60)) (hcz : cC (bt s f) ≠ 0) (R : Option (Nat × Nat))
    (HR : Hid (pEl t (pE s t most n (f + 1)) (cC (bt s f)) (decide (bt s f = 123 ∨ bt s f = 60)) most (t.size - i) i 0 0 = R)) (hl : i < t.size) (h1' : ((t[i].toNat : Int) == cC (bt s f)) = true) (h2' : (bt s f != 40) = true) (h3' : (bt s f != 60) = false) :
    Calls Tryz.prog 127 #[.pointer (some ⟨g, 0, none⟩), .agg #[.int .u8 (bt s f), .pointer (some ⟨p, 0, none⟩)], .string t, .int .i64 i, .int .i64 most] w fun e w' => e = rr R ∧ Below w.heap.size w w' := by
  have ht := v.ht
  go_enter Tryz.func127, Tryz.ntmps127
  go_wp2_with (go_at_call 74; refine (rclosing_any _ _).mono ?_; rintro e w' ⟨rfl, hw⟩; subst hw)
  go_loopw [3, 13, 14] (fun iv tv nv wr => ∃ (k top m' : Nat) (cnt : Int), iv = .int .i64 k ∧ tv = .int .i64 top ∧ nv = .int .i64 cnt ∧ Below (w.heap.size + 1) (w.alloc (.cells #[.int .u8 (bt s f), .pointer (some ⟨p, 0, none⟩)] 67)) wr ∧ k ≤ 2010 ∧ i ≤ k ∧ t.size - k ≤ m' ∧ 0 ≤ cnt ∧ cnt ≤ k ∧ top ≤ n ∧ Hid (R = pEl t (pE s t most n (f + 1)) (cC (bt s f)) (decide (bt s f = 123 ∨ bt s f = 60)) most m' k top cnt)) (fun iv _ _ _ => 2011 - (intOf iv).toNat)
  case atStart => exact ⟨i, 0, t.size - i, 0, rfl, rfl, rfl, Below.refl _ _, by omega, by omega, by omega, by omega, by omega, by omega, hide (unhide HR).symm⟩
  case round =>
    obtain ⟨k, top, m', cnt, rfl, rfl, rfl, hb, hk, hik, hkm, hc0, hc1, htop, hN⟩ := hrel
    have hbw : Below w.heap.size w wr := ((Below.refl _ _).alloc (Nat.le_refl _) _).trans (hb.mono (by omega))
    have vw := hide (v.below hbw)
    have Ew := hide (hE.below hbw v.hB)
    have HBW := hide hbw; clear hbw
    by_cases hlt : k < t.size
    · have c0 : wr.cell? ⟨w.heap.size, 0, none⟩ = some (.int .u8 (bt s f)) := (hb.cell (p := ⟨w.heap.size, 0, none⟩) (Nat.lt_succ_self _)).trans (by rw [World.cell?_alloc_new]; rfl)
      have c1 : wr.cell? ⟨w.heap.size, 1, none⟩ = some (.pointer (some ⟨p, 0, none⟩)) := (hb.cell (p := ⟨w.heap.size, 1, none⟩) (Nat.lt_succ_self _)).trans (by rw [World.cell?_alloc_new]; rfl)
      have hsz := hb.size
      have hsz' : w.heap.size < wr.heap.size := by have := hsz; simp at this; omega
      have HB := hide hb; clear hb
      obtain ⟨m1, rfl⟩ : ∃ m1, m' = m1 + 1 := ⟨m' - 1, by omega⟩
      have hN2 := unhide hN
      unfold pEl at hN2
      clear hN
      cases hq : pE s t most n (f + 1) k with
      | none =>
        rw [hq] at hN2
        have HN := hide hN2; have HQ := hide hq; clear hN2 hq
        go_wp2_with fail
        refine (hT _ p (f + 1) m k _ (unhide vw) (unhide Ew) rfl (by omega) (by omega)).mono ?_
        rw [unhide HQ]
        rintro e w2 ⟨rfl, hb2⟩
        simp only [rr]
        have hz2 := hb2.size
        go_wp2
        go_ret2
        exact ⟨by rw [unhide HN]; rfl, (unhide HBW).trans (hb2.mono (by simp at hsz; omega))⟩
      | some y =>
        obtain ⟨j, h⟩ := y
        rw [hq] at hN2
        simp only at hN2
        have hfw := pE_fwd s t most n (f + 1) k j h hq
        have HQ := hide hq; clear hq
        by_cases hjl : j < t.size
        case neg =>
          have hbz := bt_out t j (by omega)
          have hN3 : R = none := by
            rw [hN2]; split
            · rfl
            · rw [if_neg (by rw [hbz]; exact hcz.symm), if_neg (by rw [hbz]; omega)]
          have HN := hide hN3; clear hN2 hN3 hbz
          go_wp2_with fail
          refine (hT _ p (f + 1) m k _ (unhide vw) (unhide Ew) rfl (by omega) (by omega)).mono ?_
          rw [unhide HQ]
          rintro e w2 ⟨rfl, hb2⟩
          simp only [rr]
          have hz2 := hb2.size
          go_wp2
          go_ret2
          exact ⟨by rw [unhide HN]; rfl, (unhide HBW).trans (hb2.mono (by simp at hsz; omega))⟩
        case pos =>
          have hbj := bt_at t j hjl
          by_cases hm : 0 < most ∧ most < cnt + 1
          · rw [if_pos hm] at hN2
            have HN := hide hN2; clear hN2 hbj
            have hm1 := hm.1
            have hm2 := hm.2
            clear hm
            go_wp2_with fail
            refine (hT _ p (f + 1) m k _ (unhide vw) (unhide Ew) rfl (by omega) (by omega)).mono ?_
            rw [unhide HQ]
            rintro e w2 ⟨rfl, hb2⟩
            simp only [rr]
            have hz2 := hb2.size
            go_wp2
            go_ret2
            exact ⟨by rw [unhide HN]; rfl, (unhide HBW).trans (hb2.mono (by simp at hsz; omega))⟩
          · rw [if_neg hm] at hN2
            rw [hbj] at hN2
            have hmc : (0 < most ∧ ¬ most < cnt + 1) ∨ ¬ 0 < most := by omega
            have HMC := hide hmc
            clear hm hmc hbj
            by_cases hb : (t[j].toNat : Int) = cC (bt s f)
            · rw [if_pos hb] at hN2
              have hb' : ((t[j].toNat : Int) == cC (bt s f)) = true := by simp only [beq_iff_eq]; exact hb
              have HN := hide hN2; clear hN2 hb
              rcases unhide HMC with ⟨hm1, hm2⟩ | hm1
              all_goals
                go_wp2_with fail
                refine (hT _ p (f + 1) m k _ (unhide vw) (unhide Ew) rfl (by omega) (by omega)).mono ?_
                rw [unhide HQ]
                rintro e w2 ⟨rfl, hb2⟩
                simp only [rr]
                have hz2 := hb2.size
                go_wp2_with (go_at_call 158; refine (higher_any _ _ _).mono ?_; rintro e w' ⟨rfl, hw⟩; subst hw)
                go_ret2
                exact ⟨by rw [unhide HN]; simp only [rr]; go_num, (unhide HBW).trans (hb2.mono (by simp at hsz; omega))⟩
            · rw [if_neg hb] at hN2
              have hb' : ((t[j].toNat : Int) == cC (bt s f)) = false := by simp only [beq_eq_false_iff_ne]; exact hb
              clear hb
              by_cases hcm : (t[j].toNat : Int) = 44 ∧ decide (bt s f = 123 ∨ bt s f = 60) = true
              · rw [if_pos hcm] at hN2
                have hmk : bt s f = 123 ∨ bt s f = 60 := by simpa using hcm.2
                have h44 : ((t[j].toNat : Int) != 44) = false := by simp [hcm.1]
                have h40 : (bt s f == 40) = false := by simp only [beq_eq_false_iff_ne]; omega
                have h91 : (bt s f == 91) = false := by simp only [beq_eq_false_iff_ne]; omega
                have HN := hide hN2; clear hN2 hcm hmk
                rcases unhide HMC with ⟨hm1, hm2⟩ | hm1
                all_goals
                  go_wp2_with fail
                  refine (hT _ p (f + 1) m k _ (unhide vw) (unhide Ew) rfl (by omega) (by omega)).mono ?_
                  rw [unhide HQ]
                  rintro e w2 ⟨rfl, hb2⟩
                  simp only [rr]
                  have hz2 := hb2.size
                  have d0 := (hb2.cell (p := ⟨w.heap.size, 0, none⟩) hsz').trans c0
                  go_wp2_with (go_at_call 158; refine (higher_any _ _ _).mono ?_; rintro e w' ⟨rfl, hw⟩; subst hw)
                  go_roundw
                  case rel => exact ⟨j + 1, max top h, m1, cnt + 1, by go_num, by go_num, rfl, (unhide HB).trans (hb2.mono (by simp at hsz; omega)), by omega, by omega, by omega, by omega, by omega, by omega, hide (unhide HN)⟩
                  case measure => simp [intOf]; omega
              · rw [if_neg hcm] at hN2
                have hcase2 : Hid (((t[j].toNat : Int) != 44) = true ∨ ((t[j].toNat : Int) != 44) = false ∧ (bt s f == 40) = true ∨ ((t[j].toNat : Int) != 44) = false ∧ (bt s f == 40) = false ∧ (bt s f == 91) = true) := hide (by
                  by_cases e : (t[j].toNat : Int) = 44
                  · right
                    have hnm : ¬ (bt s f = 123 ∨ bt s f = 60) := fun h => hcm ⟨e, by simpa using h⟩
                    by_cases e2 : bt s f = 40
                    · exact .inl ⟨by simp [e], by simp [e2]⟩
                    · have e3 : bt s f = 91 := by have := unhide HK; omega
                      exact .inr ⟨by simp [e], by simp [e2], by simp [e3]⟩
                  · exact .inl (by simp only [bne_iff_ne]; exact e))
                have HN := hide hN2; clear hN2 hcm
                rcases unhide HMC with ⟨hm1, hm2⟩ | hm1
                all_goals
                  rcases unhide hcase2 with h44 | ⟨h44, h40⟩ | ⟨h44, h40, h91⟩
                  all_goals
                    go_wp2_with fail
                    refine (hT _ p (f + 1) m k _ (unhide vw) (unhide Ew) rfl (by omega) (by omega)).mono ?_
                    rw [unhide HQ]
                    rintro e w2 ⟨rfl, hb2⟩
                    simp only [rr]
                    have hz2 := hb2.size
                    have d0 := (hb2.cell (p := ⟨w.heap.size, 0, none⟩) hsz').trans c0
                    go_wp2_with (go_at_call 158; refine (higher_any _ _ _).mono ?_; rintro e w' ⟨rfl, hw⟩; subst hw)
                    go_ret2
                    exact ⟨by rw [unhide HN]; rfl, (unhide HBW).trans (hb2.mono (by simp at hsz; omega))⟩
    · have hN2 := unhide hN
      have hz : pE s t most n (f + 1) k = none := pE_out (by omega)
      have hN3 : R = none := by
        rw [hN2]
        cases m' with
        | zero => rfl
        | succ m1 => unfold pEl; rw [hz]
      have HN := hide hN3; clear hN2 hN3 hN hz
      go_wp2
      go_ret2
      exact ⟨by rw [unhide HN]; rfl, unhide HBW⟩
end
end Go.Proofs.YtnfaiaoipeholaaGreatDoor

namespace Go.Proofs.YtnfaiaoipeholaaGreatDoor
open Go.RowKit
section
variable {s t : ByteArray} {B g : Nat} {most : Int}

set_option maxHeartbeats 400000 in
set_option maxRecDepth 1000000 in
theorem rbracket_any {n : Nat} (hn : n ≤ 2005) (hT : SaidT s t B g most n) (q : Int) (p m f i : Nat) (w : World) (v : Wd w s t B g) (hE : EA w s m (fun b => b < B) p (f + 1)) (hq : q = i) (hi : i ≤ 2005) (hin : t.size < i + n) (hc : cO (bt s f) = true) :
    Calls Tryz.prog 127 #[.pointer (some ⟨g, 0, none⟩), .agg #[.int .u8 (bt s f), .pointer (some ⟨p, 0, none⟩)], .string t, .int .i64 q, .int .i64 most] w fun e w' => e = rr (pB s t most (pE s t most n) f i) ∧ Below w.heap.size w w' := by
  subst hq
  have hcz : cC (bt s f) ≠ 0 := by simpa [cO] using hc
  have ht := v.ht
  generalize hR : pB s t most (pE s t most n) f i = R
  unfold pB at hR
  by_cases h1 : bt t i = cC (bt s f) ∧ (bt s f = 91 ∨ bt s f = 123)
  · rw [if_pos h1] at hR
    subst hR
    have hl := bt_lt (s := t) (p := i) (by omega)
    have hb := bt_at t i hl
    have h1' : ((t[i].toNat : Int) == cC (bt s f)) = true := by simp only [beq_iff_eq]; rw [← hb]; exact h1.1
    have h2' : (bt s f != 40) = true := by simp only [bne_iff_ne]; omega
    have h3' : (bt s f != 60) = true := by simp only [bne_iff_ne]; omega
    clear h1 hc hb
    go_enter Tryz.func127, Tryz.ntmps127
    go_wp2_with (go_at_call 74; refine (rclosing_any _ _).mono ?_; rintro e w' ⟨rfl, rfl⟩)
    go_ret2
    exact ⟨by unfold rr; go_num, (Below.refl _ _).alloc (Nat.le_refl _) _⟩
  · rw [if_neg h1] at hR
    have hkind := cO_vals hc
    by_cases hl : i < t.size
    · have hb := bt_at t i hl
      by_cases e1 : (t[i].toNat : Int) = cC (bt s f)
      · by_cases e2 : bt s f = 40
        · exact rbr3 hn hT p m f i w v hE hi hin hkind hcz R hR hl (by simp only [beq_iff_eq]; exact e1) (by simp [e2])
        · have e3 : bt s f = 60 := by
            rw [hb] at h1
            have : ¬ (bt s f = 91 ∨ bt s f = 123) := fun e => h1 ⟨e1, e⟩
            omega
          exact rbr4 hn hT p m f i w v hE hi hin hkind hcz R hR hl (by simp only [beq_iff_eq]; exact e1) (by simp [e2]) (by simp [e3])
      · exact rbr2 hn hT p m f i w v hE hi hin hkind hcz R hR hl (by simp only [beq_eq_false_iff_ne]; exact e1)
    · exact rbr1 p f i w v hi R hR hl

end
end Go.Proofs.YtnfaiaoipeholaaGreatDoor
