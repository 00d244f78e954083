/- The script: a slice of steps that came in, read step by step. -/
import Derived.Test.YtnfaiaoipeholaaGreatRows
import Derived.Deep.Slices
import Derived.OpenShut
import Derived.ProofKit
namespace Go.Proofs.YtnfaiaoipeholaaGreat
open Go.ChangeShapes Go.WideShapes Go.ChangeAt Go.RowKit Go.Deep

theorem Tryz.cellsOp : Tryz.prog.cellsOf 46 = 6 := by kernel_rfl
theorem Tryz.cellsInt : Tryz.prog.cellsOf 3 = 1 := by kernel_rfl
theorem Tryz.cellsStr : Tryz.prog.cellsOf 9 = 1 := by kernel_rfl

/-- a step's six cells -/
structure OpAt (w : World) (b o : Nat) (kd n m : Int) (s t u : ByteArray) : Prop where
  c0 : w.cell? ⟨b, o, none⟩ = some (.int .i64 kd)
  c1 : w.cell? ⟨b, o + 1, none⟩ = some (.int .i64 n)
  c2 : w.cell? ⟨b, o + 2, none⟩ = some (.int .i64 m)
  c3 : w.cell? ⟨b, o + 3, none⟩ = some (.string s)
  c4 : w.cell? ⟨b, o + 4, none⟩ = some (.string t)
  c5 : w.cell? ⟨b, o + 5, none⟩ = some (.string u)
  hs : s.size ≤ maxLen
  ht : t.size ≤ maxLen
  hu : u.size ≤ maxLen

theorem list6 {α : Type} : ∀ {l : List α}, l.length = 6 → ∃ a b c d e f, l = [a, b, c, d, e, f]
  | [a, b, c, d, e, f], _ => ⟨a, b, c, d, e, f, rfl⟩

theorem open_op {H : Type} {enc : TypeId × Value → H} {W : World} {base : Nat} {spare : Nat → Bool} {held : Bool} {n : Nat} {a : Addr} {cs : List Value} {x : DataW H × List MemPlace}
    (h1 : W.cells? base a 6 = some cs) (h2 : DataW.trod enc Tryz.prog W base spare held n 46 cs = some x) :
    ∃ b o kd n m s t u, a = ⟨b, o, none⟩ ∧ OpAt W b o kd n m s t u := by
  obtain ⟨_, hlen, hcell⟩ := World.cells?_some h1
  obtain ⟨xs, k, hk, hxy, _, hxl, hf⟩ := DataW.trod_struct Tryz.underlying46 h2
  have g0 := hf 0 _ rfl
  have g1 := hf 1 _ rfl
  have g2 := hf 2 _ rfl
  have g3 := hf 3 _ rfl
  have g4 := hf 4 _ rfl
  have g5 := hf 5 _ rfl
  obtain ⟨y0, y1, y2, y3, y4, y5, rfl⟩ := list6 hxl
  obtain ⟨v0, v1, v2, v3, v4, v5, rfl⟩ := list6 hlen
  simp [Tryz.cellsInt, Tryz.cellsStr] at g0 g1 g2 g3 g4 g5
  obtain ⟨kd, e0, _, _⟩ := DataW.trod_int Tryz.underlying3 g0
  obtain ⟨n', e1, _, _⟩ := DataW.trod_int Tryz.underlying3 g1
  obtain ⟨m', e2, _, _⟩ := DataW.trod_int Tryz.underlying3 g2
  obtain ⟨s, e3, _, hs⟩ := DataW.trod_string Tryz.underlying9 g3
  obtain ⟨t, e4, _, ht⟩ := DataW.trod_string Tryz.underlying9 g4
  obtain ⟨u, e5, _, hu⟩ := DataW.trod_string Tryz.underlying9 g5
  simp at e0 e1 e2 e3 e4 e5
  subst e0 e1 e2 e3 e4 e5
  have q0 := hcell 0 (by omega)
  have q1 := hcell 1 (by omega)
  have q2 := hcell 2 (by omega)
  have q3 := hcell 3 (by omega)
  have q4 := hcell 4 (by omega)
  have q5 := hcell 5 (by omega)
  obtain ⟨b, o, spot⟩ := a
  have hspot : spot = none := by simpa [Addr.add] using World.cell?_spot q0
  subst hspot
  rw [add_plain] at q0 q1 q2 q3 q4 q5
  exact ⟨b, o, kd, n', m', s, t, u, rfl, q0, q1, q2, q3, q4, q5, hs, ht, hu⟩

theorem open_ops {H : Type} {enc : TypeId × Value → H} {W : World} {v : Value} {d : DataW H} {p : List MemPlace}
    (h : DataW.Trod enc Tryz.prog W 0 (fun _ => true) true 22 v d p) (hv : ∃ a0 len cap, v = .slice a0 len cap) :
    (∃ ao cap, v = .slice ao 0 cap) ∨
    ∃ b off len cap, v = .slice (some ⟨b, off, none⟩) len cap ∧ len ≤ maxLen ∧ b < W.heap.size ∧ ∀ i, i < len → ∃ kd n m s t u, OpAt W b (off + i * 6) kd n m s t u := by
  obtain ⟨a0, len0, cap0, rfl⟩ := hv
  obtain ⟨fuel, hf⟩ := h
  rcases open_slice Tryz.underlying22 hf with ⟨hcs, _⟩ | ⟨a, len, cap, m, n, D, Pl, hcs, _, hl, hm, hmm, _, hx⟩
  · simp [Value.cells] at hcs
    exact .inl ⟨a0, cap0, by rw [hcs.2.1]⟩
  · simp [Value.cells] at hcs
    obtain ⟨rfl, rfl, rfl⟩ := hcs
    simp at hmm
    subst hmm
    by_cases h0 : len0 = 0
    · exact .inl ⟨_, _, by rw [h0]⟩
    · right
      rw [Tryz.cellsOp] at hx
      obtain ⟨cs, h1, h2⟩ := hx 0 (by omega)
      obtain ⟨b, o, kd, n1, m1, s, t, u, ha, hop⟩ := open_op h1 h2
      have ha' : a = ⟨b, o, none⟩ := by simpa [Addr.add] using ha
      subst ha'
      refine ⟨b, o, len0, _, rfl, by omega, World.block_lt_of_cell? _ _ hop.c0, fun i hi => ?_⟩
      obtain ⟨cs, h1, h2⟩ := hx i (by omega)
      obtain ⟨b', o', kd, n1, m1, s, t, u, ha, hop⟩ := open_op h1 h2
      rw [add_plain] at ha
      injection ha with e1 e2
      subst e1 e2
      exact ⟨kd, n1, m1, s, t, u, hop⟩

theorem OpAt.below {w w' : World} {B b o : Nat} {kd n m : Int} {s t u : ByteArray} (h : OpAt w b o kd n m s t u) (hb : Below B w w') (hB : b < B) : OpAt w' b o kd n m s t u :=
  ⟨(hb.cell (p := ⟨b, o, none⟩) hB).trans h.c0, (hb.cell (p := ⟨b, o + 1, none⟩) hB).trans h.c1, (hb.cell (p := ⟨b, o + 2, none⟩) hB).trans h.c2, (hb.cell (p := ⟨b, o + 3, none⟩) hB).trans h.c3, (hb.cell (p := ⟨b, o + 4, none⟩) hB).trans h.c4, (hb.cell (p := ⟨b, o + 5, none⟩) hB).trans h.c5, h.hs, h.ht, h.hu⟩
end Go.Proofs.YtnfaiaoipeholaaGreat
