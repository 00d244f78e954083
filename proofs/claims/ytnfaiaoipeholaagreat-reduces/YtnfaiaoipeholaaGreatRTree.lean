/- The reference reads a tree: the walks, by one induction. -/
import Derived.Test.YtnfaiaoipeholaaGreatHeap
import Derived.Test.YtnfaiaoipeholaaGreatRLeaf
import Derived.Deep.QuietTactic
import Derived.BigQuiet
import Derived.Deep.RegionWith
namespace Go.Proofs.YtnfaiaoipeholaaGreat
open Go.RowKit

/-- a height and an end: 0 and -1 where there is none -/
def rr (r : Option (Nat × Nat)) : Ending := match r with
  | none => .returned (.tuple #[.int .i64 0, .int .i64 (-1)])
  | some (j, h) => .returned (.tuple #[.int .i64 h, .int .i64 j])

/-- what is asked of the world -/
structure Wd (w : World) (s t : ByteArray) (B g : Nat) : Prop where
  gr : Gr w s B g
  hB : B ≤ w.heap.size
  hs : s.size ≤ 300
  ht : t.size ≤ 2000
theorem Wd.below {w w' : World} {s t : ByteArray} {B g : Nat} (h : Wd w s t B g) (hb : Below w.heap.size w w') : Wd w' s t B g :=
  ⟨h.gr.below hb h.hB, Nat.le_trans h.hB hb.size, h.hs, h.ht⟩

/-- expressions, to this depth -/
def SaidT (s t : ByteArray) (B g : Nat) (most : Int) (n : Nat) : Prop :=
  ∀ (q : Int) (p x m i : Nat) (w : World), Wd w s t B g → EA w s m (fun b => b < B) p x → q = i → i ≤ 2010 → t.size < i + n →
    Calls Tryz.prog 149 #[.pointer (some ⟨g, 0, none⟩), .pointer (some ⟨p, 0, none⟩), .string t, .int .i64 q, .int .i64 most] w fun e w' => e = rr (pE s t most n x i) ∧ Below w.heap.size w w'

set_option maxHeartbeats 400000 in
theorem higher_any (a b : Int) (w : World) : Calls Tryz.prog 176 #[.int .i64 a, .int .i64 b] w fun e w' => e = .returned (.int .i64 (max a b)) ∧ w' = w := by
  go_enter Tryz.func176, Tryz.ntmps176
  go_wp2
  all_goals (go_ret; exact ⟨ret_int (by omega), rfl⟩)

theorem bcell' {W w1 : World} (hb : Below W.heap.size W w1) : (∀ b o, b < W.heap.size → w1.cell? ⟨b, o, none⟩ = W.cell? ⟨b, o, none⟩) ∧ (∀ b o, b < W.heap.size → w1.frozen? ⟨b, o, none⟩ = W.frozen? ⟨b, o, none⟩) :=
  ⟨fun b o h => hb.cell (p := ⟨b, o, none⟩) h, fun b o h => hb.frozen (p := ⟨b, o, none⟩) h⟩

section
variable {s t : ByteArray} {B g : Nat} {most : Int}

end
end Go.Proofs.YtnfaiaoipeholaaGreat
