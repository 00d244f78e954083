/- A grammar in memory, as the reference lays it: expressions, alternatives, factors, against the places of the text. -/
import Derived.Test.YtnfaiaoipeholaaGreatReadMath
import Derived.WalkKit
namespace Go.Proofs.YtnfaiaoipeholaaGreat
open Go.RowKit

/-- a factor's two cells -/
def FAt (w : World) (sub : Nat → Nat → Prop) (s : ByteArray) (g j f : Nat) : Prop :=
  w.cell? ⟨g, j * 2, none⟩ = some (.int .u8 (bt s f)) ∧
  ((cO (bt s f) = false ∧ w.cell? ⟨g, j * 2 + 1, none⟩ = some (.pointer none)) ∨
   (cO (bt s f) = true ∧ ∃ p, w.cell? ⟨g, j * 2 + 1, none⟩ = some (.pointer (some ⟨p, 0, none⟩)) ∧ sub p (f + 1)))
/-- an alternative: a slice of factors -/
def AAt (w : World) (sub : Nat → Nat → Prop) (S : Nat → Prop) (s : ByteArray) (v : Value) (l : List Nat) : Prop :=
  ∃ ao cap, v = .slice ao l.length cap ∧ ∀ j, j < l.length → ∃ g, ao = some ⟨g, 0, none⟩ ∧ S g ∧ FAt w sub s g j (l.getD j 0)
/-- an expression: a pointer to a slice of alternatives; all of it in blocks of a kind -/
def EA (w : World) (s : ByteArray) : Nat → (Nat → Prop) → Nat → Nat → Prop
  | 0, _, _, _ => False
  | n + 1, S, p, x => S p ∧ ∃ N gv cap, 0 < N ∧ N ≤ 400 ∧ w.cell? ⟨p, 0, none⟩ = some (.slice (some ⟨gv, 0, none⟩) N cap) ∧ S gv ∧ ap s N x = none ∧
      ∀ k, k < N → ∃ a v, ap s k x = some a ∧ w.cell? ⟨gv, k, none⟩ = some v ∧ AAt w (EA w s n S) S s v (fe s a).1

section
variable {w w' : World} {s : ByteArray} {S S' : Nat → Prop}
theorem FAt.frame {sub sub' : Nat → Nat → Prop} {g j f : Nat} (h : FAt w sub s g j f) (hg : w'.heap[g]? = w.heap[g]?) (hs : ∀ p x, sub p x → sub' p x) : FAt w' sub' s g j f := by
  obtain ⟨h1, h2⟩ := h
  refine ⟨(World.cell?_of_block (a := ⟨g, j * 2, none⟩) hg).trans h1, ?_⟩
  rcases h2 with ⟨a, b⟩ | ⟨a, p, b, c⟩
  · exact .inl ⟨a, (World.cell?_of_block (a := ⟨g, j * 2 + 1, none⟩) hg).trans b⟩
  · exact .inr ⟨a, p, (World.cell?_of_block (a := ⟨g, j * 2 + 1, none⟩) hg).trans b, hs _ _ c⟩
theorem AAt.frame {sub sub' : Nat → Nat → Prop} {v : Value} {l : List Nat} (h : AAt w sub S s v l) (hw : ∀ b, S b → w'.heap[b]? = w.heap[b]?) (hS : ∀ b, S b → S' b) (hs : ∀ p x, sub p x → sub' p x) : AAt w' sub' S' s v l := by
  obtain ⟨ao, cap, hv, h⟩ := h
  refine ⟨ao, cap, hv, fun j hj => ?_⟩
  obtain ⟨g, ha, hg, hF⟩ := h j hj
  exact ⟨g, ha, hS g hg, hF.frame (hw g hg) hs⟩
theorem EA.frame (hw : ∀ b, S b → w'.heap[b]? = w.heap[b]?) (hS : ∀ b, S b → S' b) : ∀ n m p x, n ≤ m → EA w s n S p x → EA w' s m S' p x
  | 0, _, _, _, _, h => h.elim
  | n + 1, 0, _, _, hnm, _ => by omega
  | n + 1, m + 1, p, x, hnm, h => by
    obtain ⟨hp, N, gv, cap, h0, h0', h1, h2, h3, h4⟩ := h
    refine ⟨hS p hp, N, gv, cap, h0, h0', (World.cell?_of_block (a := ⟨p, 0, none⟩) (hw p hp)).trans h1, hS gv h2, h3, fun k hk => ?_⟩
    obtain ⟨a, v, k1, k2, k3⟩ := h4 k hk
    exact ⟨a, v, k1, (World.cell?_of_block (a := ⟨gv, k, none⟩) (hw gv h2)).trans k2, k3.frame hw hS (fun p x h => EA.frame hw hS n m p x (by omega) h)⟩
end

/-- the grammar in memory: its rules, its start -/
structure Gr (w : World) (s : ByteArray) (B g : Nat) : Prop where
  lt : g < B
  start : w.cell? ⟨g, 26, none⟩ = some (.int .u8 (bt s (0 : Nat)))
  rules : ∀ f : Nat, cN (bt s f) = true → ∃ (p n j : Nat), rl s (bt s f) = (j : Int) ∧ j < s.size ∧ w.cell? ⟨g, (bt s f - 65).toNat, none⟩ = some (.pointer (some ⟨p, 0, none⟩)) ∧ EA w s n (fun b => b < B) p (j + 2)
  nils : ∀ i : Nat, i < 26 → rl s (65 + i : Nat) = -1 → w.cell? ⟨g, i, none⟩ = some (.pointer none)
theorem EA.below {w w' : World} {s : ByteArray} {B n p x : Nat} (h : EA w s n (fun b => b < B) p x) (hb : Below w.heap.size w w') (hB : B ≤ w.heap.size) : EA w' s n (fun b => b < B) p x :=
  EA.frame (fun b hbb => hb.block b (Nat.lt_of_lt_of_le hbb hB)) (fun _ h => h) n n p x (Nat.le_refl _) h
theorem Gr.below {w w' : World} {s : ByteArray} {B g : Nat} (h : Gr w s B g) (hb : Below w.heap.size w w') (hB : B ≤ w.heap.size) : Gr w' s B g := by
  have hlt := h.lt
  refine ⟨h.lt, (hb.cell (p := ⟨g, 26, none⟩) (by show g < _; omega)).trans h.start, fun f hf => ?_, fun i hi hr => (hb.cell (p := ⟨g, i, none⟩) (by show g < _; omega)).trans (h.nils i hi hr)⟩
  obtain ⟨p, n, j, h1, h2, h3, h4⟩ := h.rules f hf
  exact ⟨p, n, j, h1, h2, (hb.cell (p := ⟨g, (bt s f - 65).toNat, none⟩) (by show g < _; omega)).trans h3, h4.below hb hB⟩
end Go.Proofs.YtnfaiaoipeholaaGreat
