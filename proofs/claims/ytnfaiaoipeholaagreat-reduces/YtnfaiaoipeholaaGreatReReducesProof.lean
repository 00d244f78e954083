/- The statement Reduces, proved. -/
import Derived.Test.YtnfaiaoipeholaaGreatReReducesWalk
import Derived.ProofKit
namespace Go.Proofs.YtnfaiaoipeholaaGreat
open Go.ChangeShapes Go.WideShapes Go.ChangeAt Go.RowKit

theorem Tryz.ownR6 : ownKnob Tryz.prog.godebug = none := by kernel_rfl
theorem Tryz.laidOutR6 : laidOutB Tryz.prog = true := by kernel_rfl

set_option maxRecDepth 100000 in
theorem reduces_lifted (os : Os) (started : os.Started) (H : Type) (enc : TypeId × Value → H) :
    ReturnsInHanded {} Tryz.checked os 10 .any (Rows.reducesSpec.pre6 enc Tryz.prog Tryz.f10 Rows.reducesRow.domain false) (Rows.reducesSpec.post enc Tryz.prog Tryz.f10 false true false false) := by
  refine returnsInHanded_of_change (C := Tryz.checked) Tryz.ownR6 started (by kernel_rfl) Tryz.func10
    (ChangeSpec.witness6 (enc := enc) (C := Tryz.checked) false ⟨#[], #[.slice none 0 0], []⟩ 8 (by kernel_rfl) (by kernel_rfl) (by kernel_rfl) (by kernel_rfl)) ?_
  intro W base args ds gs before hval0 hW hcnd _
  have hval : ∀ (j : Nat) t v, Tryz.f10.params[j]? = some t → args[j]? = some v → Value.okWide Tryz.prog W .any base t v := hval0
  have hW' := hW
  obtain ⟨p, q, hA0, hV, rfl, hfz, hnd⟩ := hW
  have hA : DataW.TrodAll enc Tryz.prog W 0 (fun _ => true) true Tryz.f10.params.toList args.toList ds p := hA0
  rw [Tryz.params10] at hA hval
  obtain ⟨v0, d0, rfl, rfl, h0⟩ := trodAll_one hA
  obtain ⟨rfl, rfl⟩ := trodVars_none hV
  clear hA0 hval0
  simp only [List.append_nil] at hW'
  have hlt : ∀ x ∈ p, x.block < W.heap.size := fun x hx => by simpa using hW'.lt x hx
  have hsh := okWide_slice Tryz.underlying22 (hval 0 22 v0 rfl rfl)
  have fin : ∀ (e : Ending) W', e = .returned (.bool true) ∧ Below W.heap.size W W' → ∃ v, e = .returned v ∧ Rows.reducesSpec.post enc Tryz.prog Tryz.f10 false true false false W #[v0] v W' := by
    rintro e W' ⟨he, hbel⟩
    subst he
    refine ⟨_, rfl, _, _, _, [], p, [], hW', ?_, ?_, rfl, hbel.frame _, fun h => by cases h⟩
    · exact trodAll_mk1 (shut_bool Tryz.underlying4 _)
    · exact trodAll_mk1 (Below.trod Tryz.laidOutR6 (by kernel_rfl) (of_decide_eq_true (by kernel_rfl)) h0 hbel hlt)
  rcases open_ops h0 hsh with ⟨ao, cap, rfl⟩ | ⟨b, off, len, cap, rfl, hl, hb, hops⟩
  · exact (reduces_any0 ao cap W).mono fun e W' h => fin e W' h
  · exact (reduces_any b off len cap W hl hb hops).mono fun e W' h => fin e W' h

theorem reduces_holds : Rows.ReducesSaid :=
  OpenClaim.holds_of_wide 10 Tryz.f10 rfl rfl rfl rfl rfl rfl rfl ⟨rfl, rfl, rfl, rfl, rfl⟩ rfl rfl rfl rfl rfl (by kernel_rfl) Tryz.func10 (by kernel_rfl)
    (of_decide_eq_true (by kernel_rfl)) (by unfold Func.isWrapper; first | (rw [if_pos (by decide +kernel)]; kernel_rfl) | (rw [if_neg (by decide +kernel)]; exact ⟨rfl, rfl⟩))
    (fun os started H enc _ => reduces_lifted os started H enc)
end Go.Proofs.YtnfaiaoipeholaaGreat
