/- The reference reads what stands in brackets. -/
import Derived.Test.YtnfaiaoipeholaaGreatRBr1
import Derived.Test.YtnfaiaoipeholaaGreatRBr2
import Derived.Test.YtnfaiaoipeholaaGreatRBr3
import Derived.Test.YtnfaiaoipeholaaGreatRBr4
namespace Go.Proofs.YtnfaiaoipeholaaGreat
open Go.RowKit
section
variable {s t : ByteArray} {B g : Nat} {most : Int}

set_option maxHeartbeats 400000 in
set_option maxRecDepth 1000000 in
theorem rbracket_any {n : Nat} (hn : n ≤ 2005) (hT : SaidT s t B g most n) (q : Int) (p m f i : Nat) (w : World) (v : Wd w s t B g) (hE : EA w s m (fun b => b < B) p (f + 1)) (hq : q = i) (hi : i ≤ 2005) (hin : t.size < i + n) (hc : cO (bt s f) = true) :
    Calls Tryz.prog 150 #[.pointer (some ⟨g, 0, none⟩), .agg #[.int .u8 (bt s f), .pointer (some ⟨p, 0, none⟩)], .string t, .int .i64 q, .int .i64 most] w fun e w' => e = rr (pB s t most (pE s t most n) f i) ∧ Below w.heap.size w w' := by
  subst hq
  have hcz : cC (bt s f) ≠ 0 := by simpa [cO] using hc
  have ht := v.ht
  generalize hR : pB s t most (pE s t most n) f i = R
  unfold pB at hR
  by_cases h1 : bt t i = cC (bt s f) ∧ (bt s f = 91 ∨ bt s f = 123)
  · rw [if_pos h1] at hR
    subst hR
    have hl := bt_lt (s := t) (p := i) (by omega)
    have hb := bt_at t i hl
    have h1' : ((t[i].toNat : Int) == cC (bt s f)) = true := by simp only [beq_iff_eq]; rw [← hb]; exact h1.1
    have h2' : (bt s f != 40) = true := by simp only [bne_iff_ne]; omega
    have h3' : (bt s f != 60) = true := by simp only [bne_iff_ne]; omega
    clear h1 hc hb
    go_enter Tryz.func150, Tryz.ntmps150
    go_wp2_with (go_at_call 115; refine (rclosing_any _ _).mono ?_; rintro e w' ⟨rfl, rfl⟩)
    go_ret2
    exact ⟨by unfold rr; go_num, (Below.refl _ _).alloc (Nat.le_refl _) _⟩
  · rw [if_neg h1] at hR
    have hkind := cO_vals hc
    by_cases hl : i < t.size
    · have hb := bt_at t i hl
      by_cases e1 : (t[i].toNat : Int) = cC (bt s f)
      · by_cases e2 : bt s f = 40
        · exact rbr3 hn hT p m f i w v hE hi hin hkind hcz R hR hl (by simp only [beq_iff_eq]; exact e1) (by simp [e2])
        · have e3 : bt s f = 60 := by
            rw [hb] at h1
            have : ¬ (bt s f = 91 ∨ bt s f = 123) := fun e => h1 ⟨e1, e⟩
            omega
          exact rbr4 hn hT p m f i w v hE hi hin hkind hcz R hR hl (by simp only [beq_iff_eq]; exact e1) (by simp [e2]) (by simp [e3])
      · exact rbr2 hn hT p m f i w v hE hi hin hkind hcz R hR hl (by simp only [beq_eq_false_iff_ne]; exact e1)
    · exact rbr1 p f i w v hi R hR hl

end
end Go.Proofs.YtnfaiaoipeholaaGreat
