/- The reference reads what stands in brackets: a walk a case. -/
import Derived.Test.YtnfaiaoipeholaaGreatRTree
namespace Go.Proofs.YtnfaiaoipeholaaGreat
open Go.RowKit
section
variable {s t : ByteArray} {B g : Nat} {most : Int}

set_option maxHeartbeats 1000000 in
set_option maxRecDepth 1000000 in
theorem rbr1 {n : Nat} (p f i : Nat) (w : World) (v : Wd w s t B g) (hi : i ≤ 2005) (R : Option (Nat × Nat))
    (HR : Hid (pEl t (pE s t most n (f + 1)) (cC (bt s f)) (decide (bt s f = 123 ∨ bt s f = 60)) most (t.size - i) i 0 0 = R)) (h1' : ¬ i < t.size) :
    Calls Tryz.prog 150 #[.pointer (some ⟨g, 0, none⟩), .agg #[.int .u8 (bt s f), .pointer (some ⟨p, 0, none⟩)], .string t, .int .i64 i, .int .i64 most] w fun e w' => e = rr R ∧ Below w.heap.size w w' := by
  have ht := v.ht
  go_enter Tryz.func150, Tryz.ntmps150
  go_wp2_with (go_at_call 115; refine (rclosing_any _ _).mono ?_; rintro e w' ⟨rfl, hw⟩; subst hw)
  go_loopw [3, 13, 14] (fun iv tv nv wr => ∃ (k top m' : Nat) (cnt : Int), iv = .int .i64 k ∧ tv = .int .i64 top ∧ nv = .int .i64 cnt ∧ Below (w.heap.size + 1) (w.alloc (.cells #[.int .u8 (bt s f), .pointer (some ⟨p, 0, none⟩)] 98)) wr ∧ k ≤ 2010 ∧ i ≤ k ∧ t.size - k ≤ m' ∧ 0 ≤ cnt ∧ cnt ≤ k ∧ top ≤ n ∧ Hid (R = pEl t (pE s t most n (f + 1)) (cC (bt s f)) (decide (bt s f = 123 ∨ bt s f = 60)) most m' k top cnt)) (fun iv _ _ _ => 2011 - (intOf iv).toNat)
  case atStart => exact ⟨i, 0, t.size - i, 0, rfl, rfl, rfl, Below.refl _ _, by omega, by omega, by omega, by omega, by omega, by omega, hide (unhide HR).symm⟩
  case round =>
    obtain ⟨k, top, m', cnt, rfl, rfl, rfl, hb, hk, hik, hkm, hc0, hc1, htop, hN⟩ := hrel
    have hbw : Below w.heap.size w wr := ((Below.refl _ _).alloc (Nat.le_refl _) _).trans (hb.mono (by omega))
    have HBW := hide hbw; clear hbw
    by_cases hlt : k < t.size
    · omega
    · have hN2 := unhide hN
      have hz : pE s t most n (f + 1) k = none := pE_out (by omega)
      have hN3 : R = none := by
        rw [hN2]
        cases m' with
        | zero => rfl
        | succ m1 => unfold pEl; rw [hz]
      have HN := hide hN3; clear hN2 hN3 hN hz
      go_wp2
      go_ret2
      exact ⟨by rw [unhide HN]; rfl, unhide HBW⟩
end
end Go.Proofs.YtnfaiaoipeholaaGreat
