/- The reference's maker as it begins. -/
import Derived.Test.YtnfaiaoipeholaaGreatRcRmk
import Derived.Great.BuildSlice
namespace Go.Proofs.YtnfaiaoipeholaaGreat
open Go.RowKit
theorem ret_str {a b : ByteArray} {c d : Int} (h : a = b) (g : c = d) : Ending.returned (.tuple #[.string a, .int .i64 c]) = .returned (.tuple #[.string b, .int .i64 d]) := by rw [h, g]
/-- the reference's maker as a value -/
def rms (g : Nat) (nm : Nat → Int) (m : Int) (c : ByteArray) : List Value := .pointer (some ⟨g, 0, none⟩) :: (nms nm ++ [.int .i64 m, .string c, .int .i64 0, .string ⟨#[]⟩])
theorem Tryz.builtRm (g : Nat) (nm : Nat → Int) (m : Int) (c : ByteArray) : Tryz.prog.built 91 [(0, .pointer (some ⟨g, 0, none⟩)), (1, .agg (nms nm).toArray), (2, .int .i64 m), (3, .string c)] = some (rms g nm m c).toArray := by kernel_rfl
theorem Rm.start {w : World} {s c : ByteArray} {m : Int} {g : Nat} (t : TypeId) (gr : Gr w s w.heap.size g) : Rm (w.alloc (.cells (rms g (lowsF s 27) m c).toArray t)) w.heap.size s c m w.heap.size g 0 [] := by
  have hb : Below w.heap.size w (w.alloc (.cells (rms g (lowsF s 27) m c).toArray t)) := (Below.refl _ _).alloc (Nat.le_refl _) _
  have hr := range_alloc w (rms g (lowsF s 27) m c) t
  have hf : ∀ j, (w.alloc (.cells (rms g (lowsF s 27) m c).toArray t)).frozen? ⟨w.heap.size, j, none⟩ = false := fun j => World.frozen?_alloc_new w _ _ _
  generalize hW : w.alloc (.cells (rms g (lowsF s 27) m c).toArray t) = W at *
  have hsz : w.heap.size < W.heap.size := by rw [← hW]; simp
  have hat : ∀ j v, [Value.int .i64 m, .string c, .int .i64 0, .string ⟨#[]⟩][j]? = some v → W.cell? ⟨w.heap.size, 27 + j, none⟩ = some v := fun j v hv => by
    have := hr (27 + j) v (by
      rw [rms, show 27 + j = (26 + j) + 1 by omega, List.getElem?_cons_succ, List.getElem?_append_right (by rw [nms_len]; omega), nms_len, Nat.add_sub_cancel_left]; exact hv)
    rwa [Nat.zero_add] at this
  refine ⟨gr.below hb (Nat.le_refl _), Nat.le_refl _, hsz, ?_, fun j v hv => ?_, hat 0 _ rfl, hat 1 _ rfl, hat 2 _ rfl, hf 29, hat 3 _ rfl, hf 30⟩
  · have := hr 0 _ rfl; simpa using this
  · have := hr (1 + j) v (by rw [rms, Nat.add_comm, List.getElem?_cons_succ, List.getElem?_append_left (List.getElem?_eq_some_iff.1 hv).1]; exact hv)
    rwa [Nat.zero_add] at this

end Go.Proofs.YtnfaiaoipeholaaGreat
