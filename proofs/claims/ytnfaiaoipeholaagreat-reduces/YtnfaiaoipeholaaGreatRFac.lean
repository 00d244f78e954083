/- The reference reads a factor. -/
import Derived.Test.YtnfaiaoipeholaaGreatRNam
namespace Go.Proofs.YtnfaiaoipeholaaGreat
open Go.RowKit
/-- what stands in brackets, to this depth -/
def SaidB (s t : ByteArray) (B g : Nat) (most : Int) (n : Nat) : Prop :=
  ∀ (q : Int) (p m f i : Nat) (w : World), Wd w s t B g → EA w s m (fun b => b < B) p (f + 1) → q = i → i ≤ 2005 → t.size < i + n → cO (bt s f) = true →
    Calls Tryz.prog 150 #[.pointer (some ⟨g, 0, none⟩), .agg #[.int .u8 (bt s f), .pointer (some ⟨p, 0, none⟩)], .string t, .int .i64 q, .int .i64 most] w fun e w' => e = rr (pB s t most (pE s t most n) f i) ∧ Below w.heap.size w w'
section
variable {s t : ByteArray} {B g : Nat} {most : Int}

/-- what a factor's second field holds -/
def SubOk (w : World) (s : ByteArray) (B f : Nat) (v : Value) : Prop :=
  (cO (bt s f) = false ∧ v = .pointer none) ∨ (cO (bt s f) = true ∧ ∃ p m, v = .pointer (some ⟨p, 0, none⟩) ∧ EA w s m (fun b => b < B) p (f + 1))

set_option maxHeartbeats 1000000 in
set_option maxRecDepth 1000000 in
theorem rfactor_any {n : Nat} (hn : n ≤ 2005) (hT : SaidT s t B g most n) (hBr : SaidB s t B g most n) (q : Int) (sv : Value) (f i : Nat) (w : World) (v : Wd w s t B g) (hS : SubOk w s B f sv) (hq : q = i) (hi : i ≤ 2003) (hin : t.size < i + n) (hf : isF s f = true) :
    Calls Tryz.prog 110 #[.pointer (some ⟨g, 0, none⟩), .agg #[.int .u8 (bt s f), sv], .string t, .int .i64 q, .int .i64 most] w fun e w' => e = rr (pF s t most (pE s t most n) f i) ∧ Below w.heap.size w w' := by
  subst hq
  have ht := v.ht
  have hnz : bt s f ≠ 0 := by intro e; rw [isF, e] at hf; exact absurd hf (by decide)
  generalize hR : pF s t most (pE s t most n) f i = R
  unfold pF at hR
  by_cases hl : i < t.size
  case neg =>
    rw [if_pos (by rw [bt_out t i (by omega)]; exact hnz.symm)] at hR
    subst hR
    clear hf hS hnz
    go_enter Tryz.func110, Tryz.ntmps110
    go_wp2_with fail
    go_quiet (fail)
    go_wp2
    go_ret2
    exact ⟨rfl, below_drewN ((Below.refl _ _).alloc (Nat.le_refl _) _) _⟩
  case pos =>
    have hbi := bt_at t i hl
    by_cases h1 : bt t i = bt s f
    case neg =>
      rw [if_pos h1] at hR
      subst hR
      rw [hbi] at h1
      have h1' : ((t[i].toNat : Int) != bt s f) = true := by simp only [bne_iff_ne]; exact h1
      clear hf hS hnz hbi h1
      go_enter Tryz.func110, Tryz.ntmps110
      go_wp2_with fail
      go_quiet (fail)
      go_wp2
      go_ret2
      exact ⟨rfl, below_drewN ((Below.refl _ _).alloc (Nat.le_refl _) _) _⟩
    rw [if_neg (by simp [h1])] at hR
    rw [hbi] at h1
    have h1' : ((t[i].toNat : Int) != bt s f) = false := by simp only [bne_eq_false_iff_eq]; exact h1
    clear hbi h1
    by_cases h2 : cL (bt s f) = true
    · rw [if_pos h2] at hR
      subst hR
      have H2 := hide h2; clear hf hS hnz h2
      go_enter Tryz.func110, Tryz.ntmps110
      go_wp2_with fail
      go_quiet (fail)
      go_wp2_with (first | (go_at_call 119; refine (letter_any _ _).mono ?_; rintro e w' ⟨rfl, hw⟩; subst hw; rw [unhide H2]) | (go_at_call 59; refine (name_any _ _).mono ?_; rintro e w' ⟨rfl, hw⟩; subst hw))
      go_ret2
      exact ⟨by simp only [rr]; go_num, below_drewN ((Below.refl _ _).alloc (Nat.le_refl _) _) _⟩
    rw [if_neg h2] at hR
    have h2f : cL (bt s f) = false := by simpa using h2
    have H2 := hide h2f
    by_cases h3 : cN (bt s f) = true
    case neg =>
      rw [if_neg h3] at hR
      subst hR
      have h3f : cN (bt s f) = false := by simpa using h3
      have H3 := hide h3f
      have hop : cO (bt s f) = true := by simpa [isF, h2f, h3f] using hf
      rcases hS with ⟨e, _⟩ | ⟨_, p, m, rfl, hE⟩
      · rw [e] at hop; cases hop
      have HO := hide hop
      have hbb : Below w.heap.size w (w.alloc (.cells #[.int .u8 (bt s f), .pointer (some ⟨p, 0, none⟩)] 98)) := (Below.refl _ _).alloc (Nat.le_refl _) _
      clear hf hnz h2 h3 h2f h3f hop
      go_enter Tryz.func110, Tryz.ntmps110
      go_wp2_with fail
      go_quiet (fail)
      go_wp2_with (first | (go_at_call 119; refine (letter_any _ _).mono ?_; rintro e w' ⟨rfl, hw⟩; subst hw; rw [unhide H2]) | (go_at_call 59; refine (name_any _ _).mono ?_; rintro e w' ⟨rfl, hw⟩; subst hw; rw [unhide H3]))
      refine (hBr _ p m f (i + 1) _ (v.below (below_drewN hbb _)) (hE.below (below_drewN hbb _) v.hB) (by omega) (by omega) (by omega) (unhide HO)).mono ?_
      rintro e w2 ⟨he, hb2⟩
      obtain ⟨a, b, hab⟩ := rr_form (pB s t most (pE s t most n) f (i + 1))
      rw [hab] at he
      subst he
      have HAB := hide hab; clear hab
      go_wp2
      go_ret2
      exact ⟨(unhide HAB).symm, (below_drewN hbb _).trans (hb2.mono (by simp))⟩
    case pos =>
      rw [if_pos h3] at hR
      subst hR
      have hcO : cO (bt s f) = false := by
        have hv : 65 ≤ bt s f ∧ bt s f ≤ 90 := by simpa [cN] using h3
        cases e : cO (bt s f)
        · rfl
        · have := cO_vals e; omega
      rcases hS with ⟨_, rfl⟩ | ⟨e, _⟩
      · exact rname_any hn hT f i w v hi hin hl h1' h3 h2f
      · rw [e] at hcO; cases hcO
end
end Go.Proofs.YtnfaiaoipeholaaGreat
