/- Cells of arrays of numbers, as both sides use them. -/
import Derived.Test.YtnfaiaoipeholaaLeaf
import Derived.Deep.MidRow
import Derived.Deep.RegionHeld
namespace Go.Proofs.Ytnfaiaoipeholaa
open Go.RowKit
/-- the heights of names as an array's cells -/
def nms (nm : Nat → Int) : List Value := (List.range 26).map fun i => .int .i64 (nm i)
theorem nms_len (nm : Nat → Int) : (nms nm).length = 26 := by simp [nms]
theorem nms_at (nm : Nat → Int) (i : Nat) (h : i < 26) : (nms nm)[i]? = some (.int .i64 (nm i)) := by simp [nms, h]
theorem nms_one (nm : Nat → Int) : ∀ v ∈ nms nm, v.oneCell' = true := by
  intro v hv; simp [nms] at hv; obtain ⟨i, _, rfl⟩ := hv; rfl
theorem Try.infoArr : (Try.prog.info? 50).map (·.size) = some 26 := by kernel_rfl

/-- the array in a block of its own -/
theorem range_alloc (w : World) (cs : List Value) (t : TypeId) : (w.alloc (.cells cs.toArray t)).rangeAt w.heap.size 0 cs := by
  intro j v hv
  rw [Nat.zero_add, World.cell?_alloc_new]
  simpa using hv
theorem range_below {w w' : World} {b o : Nat} {cs : List Value} (h : w.rangeAt b o cs) (hb : Below w.heap.size w w') : w'.rangeAt b o cs := by
  intro j v hv
  have h1 := h j v hv
  exact (hb.cell (p := ⟨b, o + j, none⟩) (World.block_lt_of_cell? w _ h1)).trans h1

def nmU (nm : Nat → Int) (i : Nat) (h : Int) : Nat → Int := fun j => if j = i then h else nm j
theorem results_cell_mid {P : Program} {fn : Func} {p : Tmp} {ty : TypeId} (h : fn.results = #[.cell p ty]) (tmps : Array Value) (w : World) (g : Nat) (cs : List Value) (d : TypeDesc)
    (hp : tmps.getD p undef = .pointer (some ⟨g, 0, none⟩)) (hc : w.rangeAt g 0 cs) (hu : P.underlying ty = some d) (hd : d.isRow = true) (hi : (P.info? ty).map (·.size) = some cs.length) :
    (results fn tmps).run P w = .ok (.agg cs.toArray) w := by
  have hp' : tmps[p]?.getD undef = .pointer (some ⟨g, 0, none⟩) := by simpa using hp
  simp [results, h, hp', asAddr, run_loadVar_mid w g 0 ty cs d hc hu hd hi]
theorem below_setRow {B : Nat} {a : World} (b : Nat) (hb : B ≤ b) : ∀ (vs : List Value) (o : Nat) {w : World}, Below B a w → Below B a (w.setCells b o vs)
  | [], _, _, h => h
  | v :: r, o, _, h => below_setRow b hb r (o + 1) (h.setCell (p := ⟨b, o, none⟩) hb v)

theorem Try.infoByte : (Try.prog.info? 5).map (fun i => (i.zero, i.size, i.bytes)) = some (some (.int .u8 0), 1, 1) := by kernel_rfl
end Go.Proofs.Ytnfaiaoipeholaa
