/- The statement Swapped, proved. -/
import Derived.Test.YtnfaiaoipeholaaGreatVKSwapW
import Derived.Test.YtnfaiaoipeholaaGreatVKOpen
namespace Go.Proofs.YtnfaiaoipeholaaGreat
open Go.ChangeShapes Go.WideShapes Go.ChangeAt Go.RowKit Go.Deep

set_option maxRecDepth 100000 in
theorem swapped_lifted (os : Os) (started : os.Started) (H : Type) (enc : TypeId × Value → H) :
    ReturnsInHanded {} Tryz.checked os 9 .any (Rows.swappedSpec.pre6 enc Tryz.prog Tryz.f9 Rows.swappedRow.domain false) (Rows.swappedSpec.post enc Tryz.prog Tryz.f9 false true false false) := by
  refine returnsInHanded_of_change (C := Tryz.checked) Tryz.ownK started (by kernel_rfl) Tryz.func9
    (ChangeSpec.witness6 (enc := enc) (C := Tryz.checked) false ⟨#[], #[.string ⟨#[]⟩, .int .i64 0, .int .i64 0, .slice none 0 0, .int .i64 0, .int .i64 0], []⟩ 8 (by kernel_rfl) (by kernel_rfl) (by kernel_rfl) (by kernel_rfl)) ?_
  intro W base args ds gs before hval0 hW hcnd _
  have hval : ∀ (j : Nat) t v, Tryz.f9.params[j]? = some t → args[j]? = some v → Value.okWide Tryz.prog W .any base t v := hval0
  have hW' := hW
  obtain ⟨p, q, hA0, hV, rfl, hfz, hnd⟩ := hW
  have hA : DataW.TrodAll enc Tryz.prog W 0 (fun _ => true) true Tryz.f9.params.toList args.toList ds p := hA0
  rw [Tryz.params9] at hA hval
  obtain ⟨args⟩ := args
  obtain ⟨v0, vs0, d0, ds0, p0, q0, hargs, rfl, rfl, h0, g0⟩ := trodAll_cons hA
  obtain ⟨v1, vs1, d1, ds1, p1, q1, rfl, rfl, rfl, h1, g1⟩ := trodAll_cons g0
  obtain ⟨v2, vs2, d2, ds2, p2, q2, rfl, rfl, rfl, h2, g2⟩ := trodAll_cons g1
  obtain ⟨v3, vs3, d3, ds3, p3, q3, rfl, rfl, rfl, h3, g3⟩ := trodAll_cons g2
  obtain ⟨v4, vs4, d4, ds4, p4, q4, rfl, rfl, rfl, h4, g4⟩ := trodAll_cons g3
  obtain ⟨v5, vs5, d5, ds5, p5, q5, rfl, rfl, rfl, h5, g5⟩ := trodAll_cons g4
  obtain ⟨rfl, rfl, rfl⟩ := trodAll_nil g5
  have hargs' : args = [v0, v1, v2, v3, v4, v5] := hargs
  subst hargs'
  obtain ⟨rfl, rfl⟩ := trodVars_none hV
  clear hA0 hval0 hA g0 g1 g2 g3 g4 g5 hargs
  obtain ⟨s, rfl, rfl, rfl, hs⟩ := Go.ChangeMaps.open_string Tryz.underlying9 (hval 0 9 v0 rfl rfl) h0
  obtain ⟨o1, rfl, rfl, rfl, ho1⟩ := open_int Tryz.underlying3 (hval 1 3 v1 rfl rfl) h1
  obtain ⟨o2, rfl, rfl, rfl, ho2⟩ := open_int Tryz.underlying3 (hval 2 3 v2 rfl rfl) h2
  have hsh := okWide_slice Tryz.underlying25 (hval 3 25 v3 rfl rfl)
  obtain ⟨c1, rfl, rfl, rfl, hc1⟩ := open_int Tryz.underlying3 (hval 4 3 v4 rfl rfl) h4
  obtain ⟨c2, rfl, rfl, rfl, hc2⟩ := open_int Tryz.underlying3 (hval 5 3 v5 rfl rfl) h5
  simp only [List.append_nil, List.nil_append] at hW'
  have hlt : ∀ x ∈ p3, x.block < W.heap.size := fun x hx => by simpa using hW'.lt x hx
  have hno : ∀ x ∈ ([] : List MemPlace), x.block < W.heap.size := fun x hx => by cases hx
  obtain ⟨ao, len, cap, rfl, hN⟩ := open_nums h3 hsh
  refine (swappedLaw_any s o1 o2 ao len cap c1 c2 W hs hN (rng_of ho1) (rng_of ho2) (rng_of hc1) (rng_of hc2)).mono ?_
  rintro e W' ⟨he, hbel⟩
  subst he
  have lift : ∀ {t : TypeId} {v : Value} {d : DataW H} {ps : List MemPlace}, Tryz.prog.readableRec t = true → t < Tryz.prog.types.size → DataW.Trod enc Tryz.prog W 0 (fun _ => true) true t v d ps → (∀ x ∈ ps, x.block < W.heap.size) → DataW.Trod enc Tryz.prog W' 0 (fun b => decide (b < W.heap.size)) true t v d ps :=
    fun hr ht h hl => Below.trod Tryz.laidOutK hr ht h hbel hl
  refine ⟨_, rfl, _, _, _, [], p3, [], hW', ?_, ?_, rfl, hbel.frame _, fun h => by cases h⟩
  · exact trodAll_mk1 (shut_bool Tryz.underlying4 _)
  · have h := trodAll_cons_mk (lift (by kernel_rfl) (of_decide_eq_true (by kernel_rfl)) h0 hno) (trodAll_cons_mk (lift (by kernel_rfl) (of_decide_eq_true (by kernel_rfl)) h1 hno) (trodAll_mk4 (lift (by kernel_rfl) (of_decide_eq_true (by kernel_rfl)) h2 hno) (lift (by kernel_rfl) (of_decide_eq_true (by kernel_rfl)) h3 hlt)
      (lift (by kernel_rfl) (of_decide_eq_true (by kernel_rfl)) h4 hno) (lift (by kernel_rfl) (of_decide_eq_true (by kernel_rfl)) h5 hno)))
    simp only [List.append_nil, List.nil_append] at h
    exact h

theorem swapped_holds : Rows.SwappedSaid :=
  OpenClaim.holds_of_wide 9 Tryz.f9 rfl rfl rfl rfl rfl rfl rfl ⟨rfl, rfl, rfl, rfl, rfl⟩ rfl rfl rfl rfl rfl (by kernel_rfl) Tryz.func9 (by kernel_rfl)
    (of_decide_eq_true (by kernel_rfl)) (by unfold Func.isWrapper; first | (rw [if_pos (by decide +kernel)]; kernel_rfl) | (rw [if_neg (by decide +kernel)]; exact ⟨rfl, rfl⟩))
    (fun os started H enc _ => swapped_lifted os started H enc)
end Go.Proofs.YtnfaiaoipeholaaGreat
