/- Build RExpr RTree RNam -/
import Derived.Test.YtnfaiaoipeholaaGreatDoorAa05
import Derived.Deep.AppendLies
import Derived.Test.YtnfaiaoipeholaaGreatDoorAa02
import Derived.Deep.QuietTactic
import Derived.BigQuiet
import Derived.Deep.RegionWith
namespace Go.Proofs.YtnfaiaoipeholaaGreatDoor
open Go.RowKit

/-- the cells of factors -/
def cells (s : ByteArray) (Q : List (Nat × Value)) : List Value := Q.flatMap fun q => [.int .u8 (bt s q.1), q.2]
theorem cells_at (s : ByteArray) : ∀ (Q : List (Nat × Value)) (j : Nat) (q : Nat × Value), Q[j]? = some q → (cells s Q)[j * 2]? = some (.int .u8 (bt s q.1)) ∧ (cells s Q)[j * 2 + 1]? = some q.2
  | [], j, q, h => by simp at h
  | q0 :: Q, 0, q, h => by simp at h; subst h; exact ⟨rfl, rfl⟩
  | q0 :: Q, j + 1, q, h => by
    have := cells_at s Q j q (by simpa using h)
    have e : cells s (q0 :: Q) = [.int .u8 (bt s q0.1), q0.2] ++ cells s Q := rfl
    rw [e, List.getElem?_append_right (by simp; omega), List.getElem?_append_right (by simp; omega)]
    simp only [List.length_cons, List.length_nil]
    rw [show (j + 1) * 2 - (0 + 1 + 1) = j * 2 by omega, show (j + 1) * 2 + 1 - (0 + 1 + 1) = j * 2 + 1 by omega]
    exact this
theorem cells_push (s : ByteArray) (Q : List (Nat × Value)) (k : Nat) (v : Value) : cells s (Q ++ [(k, v)]) = cells s Q ++ [.int .u8 (bt s k), v] := by simp [cells]

/-- what a factor's second field holds -/
def SubIn (w : World) (s : ByteArray) (m : Nat) (S : Nat → Prop) (q : Nat × Value) : Prop :=
  (cO (bt s q.1) = false ∧ q.2 = .pointer none) ∨ (cO (bt s q.1) = true ∧ ∃ p, q.2 = .pointer (some ⟨p, 0, none⟩) ∧ EA w s m S p (q.1 + 1))
theorem SubIn.frame {w w' : World} {s : ByteArray} {m m' : Nat} {S S' : Nat → Prop} {q : Nat × Value} (h : SubIn w s m S q) (hw : ∀ b, S b → w'.heap[b]? = w.heap[b]?) (hS : ∀ b, S b → S' b) (hm : m ≤ m') : SubIn w' s m' S' q := by
  rcases h with h | ⟨h1, p, h2, h3⟩
  · exact .inl h
  · exact .inr ⟨h1, p, h2, EA.frame hw hS m m' p _ hm h3⟩

/-- the blocks that are written no more -/
def Sx (eb : Nat) (w : World) (va vl : Value) (b : Nat) : Prop := eb + 1 ≤ b ∧ b < w.heap.size ∧ some b ≠ va.ownBlock ∧ some b ≠ vl.ownBlock

structure XI (w : World) (s : ByteArray) (eb x m k : Nat) (va vl : Value) (A Q : List (Nat × Value)) (a : Nat) : Prop where
  lt : eb < w.heap.size
  cell : w.cell? ⟨eb, 0, none⟩ = some va
  froz : w.frozen? ⟨eb, 0, none⟩ = false
  ra : w.ownsRow (eb + 1) 156 1 va A.length (A.map Prod.snd)
  rl : w.ownsRow (eb + 1) 67 2 vl Q.length (cells s Q)
  ne : va.ownBlock = none ∨ va.ownBlock ≠ vl.ownBlock
  alts : ∀ j y, A[j]? = some y → ap s j x = some y.1 ∧ AAt w (EA w s m (Sx eb w va vl)) (Sx eb w va vl) s y.2 (fe s y.1).1
  cur : ap s A.length x = some a
  fe1 : (fe s a).1 = Q.map Prod.fst ++ (fe s k).1
  fe2 : (fe s a).2 = (fe s k).2
  subs : ∀ q, q ∈ Q → SubIn w s m (Sx eb w va vl) q
  cnt : A.length + Q.length ≤ k

theorem XI.start {w : World} {s : ByteArray} {x : Nat} : XI (w.alloc (.cells #[.slice none 0 0] 155)) s w.heap.size x 0 x (.slice none 0 0) (.slice none 0 0) [] [] x := by
  refine ⟨by simp, by rw [World.cell?_alloc_new]; rfl, by rw [World.frozen?_alloc_new], World.ownsRow_nil _ _ _ _, World.ownsRow_nil _ _ _ _, .inl rfl, fun j y h => by simp at h, rfl, by simp, rfl, fun q h => by simp at h, by simp⟩

section
variable {w w1 w2 : World} {s : ByteArray} {eb x m k a : Nat} {va vl : Value} {A Q : List (Nat × Value)}

theorem ownsRow_below {w w' : World} {base : Nat} {e : TypeId} {size : Nat} {v : Value} {n : Nat} {xs : List Value} (h : w.ownsRow base e size v n xs) (hb : Below w.heap.size w w') : w'.ownsRow base e size v n xs :=
  h.kept (row := none) ⟨hb.os, hb.tape, hb.output, hb.size, fun k hk _ => hb.block k hk⟩ (by cases hv : v.ownBlock <;> simp)

/-- more memory -/
theorem XI.below (h : XI w s eb x m k va vl A Q a) (hb : Below w.heap.size w w1) : XI w1 s eb x m k va vl A Q a := by
  have hS : ∀ b, Sx eb w va vl b → Sx eb w1 va vl b := fun b hh => ⟨hh.1, Nat.lt_of_lt_of_le hh.2.1 hb.size, hh.2.2⟩
  have hw : ∀ b, Sx eb w va vl b → w1.heap[b]? = w.heap[b]? := fun b hh => hb.block b hh.2.1
  refine ⟨Nat.lt_of_lt_of_le h.lt hb.size, (hb.cell (p := ⟨eb, 0, none⟩) h.lt).trans h.cell, (hb.frozen (p := ⟨eb, 0, none⟩) h.lt).trans h.froz, ownsRow_below h.ra hb, ownsRow_below h.rl hb, h.ne, fun j y hy => ?_, h.cur, h.fe1, h.fe2, fun q hq => (h.subs q hq).frame hw hS (Nat.le_refl _), h.cnt⟩
  obtain ⟨h1, h2⟩ := h.alts j y hy
  exact ⟨h1, h2.frame hw hS (fun p x hh => EA.frame hw hS m m p x (Nat.le_refl _) hh)⟩
theorem XI.deeper (h : XI w s eb x m k va vl A Q a) {m' : Nat} (hm : m ≤ m') : XI w s eb x m' k va vl A Q a :=
  { h with
    alts := fun j y hy => ⟨(h.alts j y hy).1, (h.alts j y hy).2.frame (fun _ _ => rfl) (fun _ hh => hh) (fun p x hh => EA.frame (fun _ _ => rfl) (fun _ hh => hh) m m' p x hm hh)⟩
    subs := fun q hq => (h.subs q hq).frame (fun _ _ => rfl) (fun _ hh => hh) hm }

/-- one factor more -/
theorem XI.push (h : XI w s eb x m k va vl A Q a) {o : Obj} {g cap k' : Nat} {sv : Value} (hF : isF s k = true) (hk' : bh s k = k')
    (hs : SubIn w s m (Sx eb w va vl) (k, sv)) (hown : w2.ownsRow (eb + 1) 67 2 (.slice (some ⟨g, 0, none⟩) (Q.length + 1) cap) (Q.length + 1) (cells s Q ++ [.int .u8 (bt s k), sv]))
    (hg : (w.alloc o).grownBy w2 vl.ownBlock) (hb : vl.ownBlock = some g ∨ g = w.heap.size + 1) :
    XI w2 s eb x m k' va (.slice (some ⟨g, 0, none⟩) (Q.length + 1) cap) A (Q ++ [(k, sv)]) a ∧ Below (eb + 1) w w2 := by
  have hsz : w.heap.size + 1 ≤ w2.heap.size := by have := hg.size; simpa using this
  have hvl : ∀ b, vl.ownBlock = some b → eb + 1 ≤ b ∧ b < w.heap.size := h.rl.lt
  have hva : ∀ b, va.ownBlock = some b → eb + 1 ≤ b ∧ b < w.heap.size := h.ra.lt
  have hblk : ∀ b, b < w.heap.size → some b ≠ vl.ownBlock → w2.heap[b]? = w.heap[b]? := fun b hb1 hb2 =>
    (hg.block b (by simp; omega) hb2).trans (Below.heap_alloc w o b hb1)
  have hS : ∀ b, Sx eb w va vl b → Sx eb w2 va (.slice (some ⟨g, 0, none⟩) (Q.length + 1) cap) b := fun b hh => by
    refine ⟨hh.1, by have := hh.2.1; omega, hh.2.2.1, ?_⟩
    simp only [Value.ownBlock]
    intro e
    have e : b = g := by simpa using e
    rcases hb with hb | hb
    · exact hh.2.2.2 (by rw [hb, e])
    · have := hh.2.1; omega
  have hw : ∀ b, Sx eb w va vl b → w2.heap[b]? = w.heap[b]? := fun b hh => hblk b hh.2.1 hh.2.2.2
  have hebn : some eb ≠ vl.ownBlock := fun e => by have := hvl eb e.symm; omega
  have hbb := bh_bd hF
  refine ⟨⟨by have := h.lt; omega, ?_, ?_, ?_, ?_, ?_, fun j y hy => ?_, h.cur, ?_, ?_, fun q hq => ?_, ?_⟩, ?_⟩
  · exact (World.cell?_of_block (a := ⟨eb, 0, none⟩) (hblk eb h.lt hebn)).trans h.cell
  · exact (World.frozen?_of_block (a := ⟨eb, 0, none⟩) (hblk eb h.lt hebn)).trans h.froz
  · refine (h.ra.alloc o).kept hg ?_
    rcases h.ne with e | e
    · exact .inl e
    · exact .inr e
  · rw [cells_push]; simpa using hown
  · cases hv : va.ownBlock with
    | none => exact .inl rfl
    | some b =>
      right
      simp only [Value.ownBlock]
      intro e
      have e : b = g := by simpa using e
      have hb3 := hva b hv
      rcases hb with hb | hb
      · rcases h.ne with e1 | e1
        · rw [hv] at e1; cases e1
        · exact e1 (by rw [hv, hb, e])
      · omega
  · obtain ⟨h1, h2⟩ := h.alts j y hy
    exact ⟨h1, h2.frame hw hS (fun p x hh => EA.frame hw hS m m p x (Nat.le_refl _) hh)⟩
  · rw [h.fe1, fe_yes hF, hk']; simp
  · rw [h.fe2, fe_yes hF, hk']
  · rcases List.mem_append.1 hq with hq | hq
    · exact (h.subs q hq).frame hw hS (Nat.le_refl _)
    · simp at hq; subst hq; exact hs.frame hw hS (Nat.le_refl _)
  · have := h.cnt; simp; omega
  · refine ⟨hg.os, hg.tape, hg.output, by omega, fun b hb1 => ?_⟩
    have := h.lt
    exact hblk b (by omega) (fun e => by have := hvl b e.symm; omega)

/-- a slice of factors, as an alternative -/
theorem AAt_of_row {sub : Nat → Nat → Prop} {S : Nat → Prop} {base : Nat} (h : w.ownsRow base 67 2 vl Q.length (cells s Q)) (hS : ∀ b, vl.ownBlock = some b → S b)
    (hq : ∀ q, q ∈ Q → (cO (bt s q.1) = false ∧ q.2 = .pointer none) ∨ (cO (bt s q.1) = true ∧ ∃ p, q.2 = .pointer (some ⟨p, 0, none⟩) ∧ sub p (q.1 + 1))) : AAt w sub S s vl (Q.map Prod.fst) := by
  rcases id h.2 with ⟨rfl, hn⟩ | ⟨g, cap, cur, rfl, hb, hg, hnc, hcm, hcs, htake⟩
  · exact ⟨none, 0, by simp [hn], fun j hj => by simp at hj; omega⟩
  · refine ⟨some ⟨g, 0, none⟩, cap, by simp, fun j hj => ⟨g, rfl, hS g rfl, ?_⟩⟩
    have hj' : j < Q.length := by simpa using hj
    have hqj : Q[j]? = some Q[j] := List.getElem?_eq_getElem hj'
    obtain ⟨c1, c2⟩ := cells_at s Q j Q[j] hqj
    have e : (Q.map Prod.fst).getD j 0 = Q[j].1 := by simp [List.getD_eq_getElem?_getD, hj']
    rw [e]
    have hc1 : w.cell? ⟨g, j * 2, none⟩ = some (.int .u8 (bt s Q[j].1)) := by rw [h.cellAt (j * 2) (by omega)]; exact c1
    have hc2 : w.cell? ⟨g, j * 2 + 1, none⟩ = some Q[j].2 := by rw [h.cellAt (j * 2 + 1) (by omega)]; exact c2
    refine ⟨hc1, ?_⟩
    rcases hq Q[j] (List.getElem_mem hj') with ⟨a1, a2⟩ | ⟨a1, p, a2, a3⟩
    · exact .inl ⟨a1, by rw [hc2, a2]⟩
    · exact .inr ⟨a1, p, by rw [hc2, a2], a3⟩

/-- the alternative is laid among the others -/
theorem XI.shut (h : XI w s eb x m k va vl A Q a) {o : Obj} {g cap : Nat} (hF : isF s k = false)
    (hown : w2.ownsRow (eb + 1) 156 1 (.slice (some ⟨g, 0, none⟩) (A.length + 1) cap) (A.length + 1) (A.map Prod.snd ++ [vl]))
    (hg : (w.alloc o).grownBy w2 va.ownBlock) (hb : va.ownBlock = some g ∨ g = w.heap.size + 1) (hgl : g < w2.heap.size) :
    (w2.cell? ⟨eb, 0, none⟩ = some va ∧ w2.frozen? ⟨eb, 0, none⟩ = false) ∧
    (let w3 := w2.setCell ⟨eb, 0, none⟩ (.slice (some ⟨g, 0, none⟩) (A.length + 1) cap)
     let S3 := Sx eb w3 (.slice (some ⟨g, 0, none⟩) (A.length + 1) cap) (.slice none 0 0)
     eb < w3.heap.size ∧ w3.cell? ⟨eb, 0, none⟩ = some (.slice (some ⟨g, 0, none⟩) (A.length + 1) cap) ∧ w3.frozen? ⟨eb, 0, none⟩ = false ∧ eb + 1 ≤ g ∧
     w3.ownsRow (eb + 1) 156 1 (.slice (some ⟨g, 0, none⟩) (A.length + 1) cap) (A.length + 1) ((A ++ [(a, vl)]).map Prod.snd) ∧
     (∀ j y, (A ++ [(a, vl)])[j]? = some y → ap s j x = some y.1 ∧ AAt w3 (EA w3 s m S3) S3 s y.2 (fe s y.1).1) ∧ Below eb w w3) := by
  have hsz : w.heap.size + 1 ≤ w2.heap.size := by have := hg.size; simpa using this
  have hvl : ∀ b, vl.ownBlock = some b → eb + 1 ≤ b ∧ b < w.heap.size := h.rl.lt
  have hva : ∀ b, va.ownBlock = some b → eb + 1 ≤ b ∧ b < w.heap.size := h.ra.lt
  have hlt := h.lt
  have hgeb : eb + 1 ≤ g := by
    rcases hb with hb | hb
    · exact (hva g hb).1
    · omega
  have hblk2 : ∀ b, b < w.heap.size → some b ≠ va.ownBlock → w2.heap[b]? = w.heap[b]? := fun b hb1 hb2 =>
    (hg.block b (by simp; omega) hb2).trans (Below.heap_alloc w o b hb1)
  have hebn : some eb ≠ va.ownBlock := fun e => by have := hva eb e.symm; omega
  have hc2 : w2.cell? ⟨eb, 0, none⟩ = some va := (World.cell?_of_block (a := ⟨eb, 0, none⟩) (hblk2 eb hlt hebn)).trans h.cell
  have hf2 : w2.frozen? ⟨eb, 0, none⟩ = false := (World.frozen?_of_block (a := ⟨eb, 0, none⟩) (hblk2 eb hlt hebn)).trans h.froz
  refine ⟨⟨hc2, hf2⟩, ?_⟩
  intro w3 S3
  have hsz3 : w3.heap.size = w2.heap.size := World.size_setCell _ _ _
  have hblk3 : ∀ b, b ≠ eb → w3.heap[b]? = w2.heap[b]? := fun b hbe => Below.heap_setCell w2 ⟨eb, 0, none⟩ _ b hbe
  have hblk : ∀ b, b < w.heap.size → b ≠ eb → some b ≠ va.ownBlock → w3.heap[b]? = w.heap[b]? := fun b h1 h2 h3 => (hblk3 b h2).trans (hblk2 b h1 h3)
  have hS : ∀ b, Sx eb w va vl b → S3 b := fun b hh => by
    refine ⟨hh.1, by have := hh.2.1; omega, ?_, by simp [Value.ownBlock]⟩
    simp only [Value.ownBlock]
    intro e
    have e : b = g := by simpa using e
    rcases hb with hb | hb
    · exact hh.2.2.1 (by rw [hb, e])
    · have := hh.2.1; omega
  have hw : ∀ b, Sx eb w va vl b → w3.heap[b]? = w.heap[b]? := fun b hh => hblk b hh.2.1 (by have := hh.1; omega) hh.2.2.1
  have hvlS : ∀ b, vl.ownBlock = some b → S3 b := fun b hv => by
    have h1 := hvl b hv
    refine ⟨h1.1, by omega, ?_, by simp [Value.ownBlock]⟩
    simp only [Value.ownBlock]
    intro e
    have e : b = g := by simpa using e
    rcases hb with hb | hb
    · rcases h.ne with e1 | e1
      · rw [hb] at e1; cases e1
      · exact e1 (by rw [hv, hb, e])
    · omega
  have hvlw : ∀ b, vl.ownBlock = some b → w3.heap[b]? = w.heap[b]? := fun b hv => by
    have h1 := hvl b hv
    refine hblk b h1.2 (by omega) ?_
    intro e
    rcases h.ne with e1 | e1
    · rw [e1] at e; cases e
    · exact e1 (by rw [← e, hv])
  have hrl3 : w3.ownsRow (eb + 1) 67 2 vl Q.length (cells s Q) := by
    refine ⟨h.rl.1, ?_⟩
    rcases h.rl.2 with hn | ⟨g', cap', cur, e1, hb', hgg, rest⟩
    · exact .inl hn
    · exact .inr ⟨g', cap', cur, e1, hb', (hvlw g' (by rw [e1]; rfl)).trans hgg, rest⟩
  refine ⟨by omega, World.cell?_setCell_same w2 _ _ hc2, by rw [World.frozen?_setCell]; exact hf2, hgeb, ?_, fun j y hy => ?_, ?_⟩
  · have hge : g ≠ eb := by omega
    refine ⟨by simp, .inr ?_⟩
    rcases hown.2 with ⟨e, _⟩ | ⟨g', cap', cur, e1, hb', hgg, rest⟩
    · cases e
    · injection e1 with e1 e2 e3
      simp only [Option.some.injEq, Addr.mk.injEq, and_true] at e1
      subst e1 e3
      exact ⟨g, cap, cur, rfl, hb', (hblk3 g hge).trans hgg, by simpa using rest⟩
  · by_cases hj : j < A.length
    · rw [List.getElem?_append_left hj] at hy
      obtain ⟨h1, h2⟩ := h.alts j y hy
      exact ⟨h1, h2.frame hw hS (fun p x hh => EA.frame hw hS m m p x (Nat.le_refl _) hh)⟩
    · rw [List.getElem?_append_right (by omega)] at hy
      have hj0 : j = A.length := by
        rcases Nat.lt_or_ge (j - A.length) 1 with h1 | h1
        · omega
        · rw [List.getElem?_eq_none (by simpa using h1)] at hy; cases hy
      subst hj0
      simp at hy
      subst hy
      refine ⟨h.cur, ?_⟩
      have hfe : (fe s a).1 = Q.map Prod.fst := by rw [h.fe1, fe_no hF]; simp
      simp only
      rw [hfe]
      exact AAt_of_row hrl3 hvlS (fun q hq => (h.subs q hq).frame hw hS (Nat.le_refl _))
  · refine ⟨hg.os, hg.tape, hg.output, by omega, fun b hb1 => ?_⟩
    exact hblk b (by omega) (by omega) (fun e => by have := hva b e.symm; omega)
end
end Go.Proofs.YtnfaiaoipeholaaGreatDoor

namespace Go.Proofs.YtnfaiaoipeholaaGreatDoor
open Go.RowKit

theorem Tryz.infoFac : (Tryz.prog.info? 67).map (fun i => (i.zero, i.size, i.bytes)) = some (some (.agg #[.int .u8 0, .pointer none]), 2, 16) := by kernel_rfl
theorem Tryz.infoAlt : (Tryz.prog.info? 156).map (fun i => (i.zero, i.size, i.bytes)) = some (some (.slice none 0 0), 1, 24) := by kernel_rfl

/-- what it answers -/
def OutX (s : ByteArray) (w : World) (x : Nat) (e : Ending) (w' : World) : Prop :=
  ∃ m, e = .returned (.tuple #[.pointer (some ⟨w.heap.size, 0, none⟩), .int .i64 (ee s x)]) ∧ EA w' s m (fun b => w.heap.size ≤ b ∧ b < w'.heap.size) w.heap.size x ∧ Below w.heap.size w w'
/-- expressions that go on well for so long -/
def SaidX (s : ByteArray) (n : Nat) : Prop :=
  ∀ (q : Int) (x d : Nat) (w : World), q = x → good s n x d →
    Calls Tryz.prog 68 #[.string s, .int .i64 q] w fun e w' => OutX s w x e w'

/-- the loop's relation -/
def RX (s : ByteArray) (w : World) (x d n : Nat) (iv vl : Value) (wr : World) : Prop :=
  ∃ (k : Nat) (va : Value) (A Q : List (Nat × Value)) (a m gn : Nat), iv = .int .i64 k ∧ XI wr s w.heap.size x m k va vl A Q a ∧ Below w.heap.size w wr ∧ gn ≤ n ∧ good s gn k d ∧ ee s x = ee s k ∧ k ≤ s.size

theorem good_lt {s : ByteArray} {n k d : Nat} (h : good s n k d) : k < s.size := by
  cases n with
  | zero => exact h.elim
  | succ n =>
    refine bt_lt ?_
    intro e
    unfold good at h
    rw [e] at h
    rcases h with ⟨h | h, _⟩ | ⟨h, _⟩ | ⟨h, _⟩ | ⟨h, _⟩
    · revert h; decide
    · omega
    · revert h; decide
    · revert h; decide
    · omega

theorem XI.vlForm {w : World} {s : ByteArray} {eb x m k a : Nat} {va vl : Value} {A Q : List (Nat × Value)} (h : XI w s eb x m k va vl A Q a) : ∃ ao cl, vl = .slice ao Q.length cl := by
  rcases h.rl.2 with ⟨rfl, e⟩ | ⟨g, cap, cur, rfl, _⟩
  · exact ⟨none, 0, by rw [e]⟩
  · exact ⟨_, _, rfl⟩
theorem EA_of_parts {w : World} {s : ByteArray} {eb x m a g cap : Nat} {vl : Value} {A : List (Nat × Value)} (h1 : eb < w.heap.size) (h2 : w.cell? ⟨eb, 0, none⟩ = some (.slice (some ⟨g, 0, none⟩) (A.length + 1) cap)) (h4 : eb + 1 ≤ g)
    (h5 : w.ownsRow (eb + 1) 156 1 (.slice (some ⟨g, 0, none⟩) (A.length + 1) cap) (A.length + 1) ((A ++ [(a, vl)]).map Prod.snd))
    (h6 : ∀ j y, (A ++ [(a, vl)])[j]? = some y → ap s j x = some y.1 ∧ AAt w (EA w s m (Sx eb w (.slice (some ⟨g, 0, none⟩) (A.length + 1) cap) (.slice none 0 0))) (Sx eb w (.slice (some ⟨g, 0, none⟩) (A.length + 1) cap) (.slice none 0 0)) s y.2 (fe s y.1).1)
    (h7 : ap s (A ++ [(a, vl)]).length x = none) (h8 : (A ++ [(a, vl)]).length ≤ 400) : EA w s (m + 1) (fun b => eb ≤ b ∧ b < w.heap.size) eb x := by
  have hgl := (h5.lt g rfl).2
  have hS : ∀ b, Sx eb w (.slice (some ⟨g, 0, none⟩) (A.length + 1) cap) (.slice none 0 0) b → eb ≤ b ∧ b < w.heap.size := fun b hb => ⟨by have := hb.1; omega, hb.2.1⟩
  refine ⟨⟨Nat.le_refl _, h1⟩, A.length + 1, g, cap, by omega, by simpa using h8, h2, ⟨by omega, hgl⟩, by simpa using h7, fun k hk => ?_⟩
  have hk' : k < (A ++ [(a, vl)]).length := by simpa using hk
  obtain ⟨h9, h10⟩ := h6 k (A ++ [(a, vl)])[k] (List.getElem?_eq_getElem hk')
  refine ⟨_, _, h9, ?_, h10.frame (fun _ _ => rfl) hS (fun p x hh => EA.frame (fun _ _ => rfl) hS m m p x (Nat.le_refl _) hh)⟩
  rw [h5.cellAt k (by omega), List.getElem?_map, List.getElem?_eq_getElem hk']
  rfl

set_option maxHeartbeats 1000000 in
set_option maxRecDepth 1000000 in
theorem expr_any (s : ByteArray) (hs : s.size ≤ 300) (n : Nat) (ih : ∀ m, m < n → SaidX s m) : SaidX s n := by
  intro q x d w hq hgood
  subst hq
  have hx := good_lt hgood
  have HG := hide hgood
  have IH := hide ih
  clear hgood ih
  obtain ⟨i0, hi0, hz0, hz1, hz2⟩ := info_parts Tryz.infoFac
  obtain ⟨i1, hi1, hy0, hy1, hy2⟩ := info_parts Tryz.infoAlt
  go_enter Tryz.func68, Tryz.ntmps68
  go_wp2
  go_loopw [1, 7] (fun iv vl wr => Hid (RX s w x d n iv vl wr)) (fun iv _ _ => s.size - (intOf iv).toNat)
  case atStart => exact hide ⟨x, _, [], [], x, 0, n, rfl, XI.start, (Below.refl _ _).alloc (Nat.le_refl _) _, Nat.le_refl _, unhide HG, rfl, by omega⟩
  case round =>
    obtain ⟨k, va, A, Q, a, m, gn, hiv, hXI, hB, hgn, hgd, hee, hks⟩ := unhide hrel
    subst hiv
    have hlt := good_lt hgd
    have hbk := bt_at s k hlt
    have hcnt := hXI.cnt
    have hebl := hXI.lt
    cases gn with
    | zero => exact hgd.elim
    | succ gn =>
    unfold good at hgd
    rcases hgd with ⟨hc | hc, hg⟩ | ⟨hc, hg⟩ | ⟨hc, d', hd, hg⟩ | ⟨hc, hd⟩
    · -- a letter, a name
      have hrl := hXI.rl
      have HX := hide hXI
      have HEE := hide hee
      have HGD := hide hg
      have HB := hide hB
      have HC := hide hc
      have HBK := hide hbk
      rw [hbk] at hc
      clear hXI hee hg hB hbk hrel
      have hF : Hid (isF s k = true) := hide (by unfold isF; rw [unhide HC]; rfl)
      have hbh : Hid (bh s k = k + 1) := hide (bh_plain hlt (unhide HC))
      have hcO : Hid (cO (bt s k) = false) := hide (plain_not (.inl (unhide HC))).1
      have hek : Hid (ee s k = ee s (k + 1)) := hide (by rw [ee_fac (unhide hF), unhide hbh])
      cases hL : cL (s[k].toNat : Int)
      · have hN : cN (s[k].toNat : Int) = true := by simpa [hL] using hc
        have HL := hide hL; have HN := hide hN
        clear hL hN hc
        go_wp2_with (first | (go_at_call 74; refine (rclosing_any _ _).mono ?_; rintro e w' ⟨rfl, hw⟩; replace hw := hw.symm; subst hw) | (go_at_call 78; refine (letter_any _ _).mono ?_; rintro e w' ⟨rfl, hw⟩; replace hw := hw.symm; subst hw; rw [unhide HL]) | (go_at_call 31; refine (name_any _ _).mono ?_; rintro e w' ⟨rfl, hw⟩; replace hw := hw.symm; subst hw; rw [unhide HN]) | (at_builtin; refine wpList_append_lies _ rfl _ _ 156 rfl (w.heap.size + 1) 67 i0 (.agg #[.int .u8 0, .pointer none]) 2 16 Tryz.underlying156 hi0 hz0 hz1 hz2 rfl (by decide) _ _ _ rfl (hrl.alloc _) ⟨_, 0, none⟩ 1 1 [.int .u8 (s[k].toNat : Int), .pointer none] rfl rfl ?c1 ?c2 ?c3 ?c4 ?c5 ?c6 _ rfl ?_) | go_in)
        case c1 => exact World.news_of_block (heap_alloc_new _ _)
        case c2 => intro u hu; simp at hu; rcases hu with rfl | rfl <;> rfl
        case c3 => omega
        case c4 => unfold maxLen; omega
        case c5 => omega
        case c6 => simp; omega
        · intro g cap w2 hown hgr hbb hgl
          have hp := (unhide HX).push (g := g) (cap := cap) (sv := .pointer none) (unhide hF) (unhide hbh) (.inl ⟨unhide hcO, rfl⟩) (by rw [unhide HBK]; exact hown) hgr hbb
          have HP := hide hp
          clear hp hown hgr hbb hgl hrl
          go_wp2
          go_roundw
          case rel => exact hide ⟨k + 1, va, A, _, a, m, gn, by go_num, (unhide HP).1, (unhide HB).trans ((unhide HP).2.mono (by omega)), by omega, unhide HGD, (unhide HEE).trans (unhide hek), by omega⟩
          case measure => simp [intOf]; omega
      · have HL := hide hL
        clear hL hc
        go_wp2_with (first | (go_at_call 74; refine (rclosing_any _ _).mono ?_; rintro e w' ⟨rfl, hw⟩; replace hw := hw.symm; subst hw) | (go_at_call 78; refine (letter_any _ _).mono ?_; rintro e w' ⟨rfl, hw⟩; replace hw := hw.symm; subst hw; rw [unhide HL]) | (go_at_call 31; refine (name_any _ _).mono ?_; rintro e w' ⟨rfl, hw⟩; replace hw := hw.symm; subst hw) | (at_builtin; refine wpList_append_lies _ rfl _ _ 156 rfl (w.heap.size + 1) 67 i0 (.agg #[.int .u8 0, .pointer none]) 2 16 Tryz.underlying156 hi0 hz0 hz1 hz2 rfl (by decide) _ _ _ rfl (hrl.alloc _) ⟨_, 0, none⟩ 1 1 [.int .u8 (s[k].toNat : Int), .pointer none] rfl rfl ?c1 ?c2 ?c3 ?c4 ?c5 ?c6 _ rfl ?_) | go_in)
        case c1 => exact World.news_of_block (heap_alloc_new _ _)
        case c2 => intro u hu; simp at hu; rcases hu with rfl | rfl <;> rfl
        case c3 => omega
        case c4 => unfold maxLen; omega
        case c5 => omega
        case c6 => simp; omega
        · intro g cap w2 hown hgr hbb hgl
          have hp := (unhide HX).push (g := g) (cap := cap) (sv := .pointer none) (unhide hF) (unhide hbh) (.inl ⟨unhide hcO, rfl⟩) (by rw [unhide HBK]; exact hown) hgr hbb
          have HP := hide hp
          clear hp hown hgr hbb hgl hrl
          go_wp2
          go_roundw
          case rel => exact hide ⟨k + 1, va, A, _, a, m, gn, by go_num, (unhide HP).1, (unhide HB).trans ((unhide HP).2.mono (by omega)), by omega, unhide HGD, (unhide HEE).trans (unhide hek), by omega⟩
          case measure => simp [intOf]; omega
    · -- a bar
      obtain ⟨ao, cl, hu7⟩ := hXI.vlForm
      subst hu7
      have hra := hXI.ra
      have c0 := hXI.cell
      have HX := hide hXI
      have HEE := hide hee
      have HGD := hide hg
      have HB := hide hB
      have HC := hide hc
      have HBK := hide hbk
      rw [hbk] at hc
      clear hXI hee hg hB hbk hrel
      have hF : Hid (isF s k = false) := hide (by unfold isF; rw [unhide HC]; decide)
      have HL : Hid (cL (s[k].toNat : Int) = false) := hide (by rw [hc]; decide)
      have HN : Hid (cN (s[k].toNat : Int) = false) := hide (by rw [hc]; decide)
      have HZ : Hid (cC (s[k].toNat : Int) = 0) := hide (by rw [hc]; decide)
      have h124 : ((s[k].toNat : Int) == 124) = true := by simp only [beq_iff_eq]; exact hc
      have hfk : Hid ((fe s k).2 = k) := hide (by rw [fe_no (unhide hF)])
      have hek : Hid (ee s k = ee s (k + 1)) := hide (by rw [ee_bar (by rw [unhide hfk]; exact unhide HC), unhide hfk])
      clear hc
      go_wp2_with (first | (go_at_call 74; refine (rclosing_any _ _).mono ?_; rintro e w' ⟨rfl, hw⟩; replace hw := hw.symm; subst hw; rw [unhide HZ]) | (go_at_call 78; refine (letter_any _ _).mono ?_; rintro e w' ⟨rfl, hw⟩; replace hw := hw.symm; subst hw; rw [unhide HL]) | (go_at_call 31; refine (name_any _ _).mono ?_; rintro e w' ⟨rfl, hw⟩; replace hw := hw.symm; subst hw; rw [unhide HN]) | (at_builtin; refine wpList_append_lies _ rfl _ _ 153 rfl (w.heap.size + 1) 156 i1 (.slice none 0 0) 1 24 Tryz.underlying153 hi1 hy0 hy1 hy2 rfl (by decide) _ _ _ rfl (hra.alloc _) ⟨_, 0, none⟩ 1 1 [.slice ao Q.length cl] rfl rfl ?c1 ?c2 ?c3 ?c4 ?c5 ?c6 _ rfl ?_) | go_in)
      case c1 => exact World.news_of_block (heap_alloc_new _ _)
      case c2 => intro u hu; simp at hu; subst hu; rfl
      case c3 => omega
      case c4 => unfold maxLen; omega
      case c5 => omega
      case c6 => simp; omega
      · intro g cap w2 hown hgr hbb hgl
        have hp := (unhide HX).shut (g := g) (cap := cap) (unhide hF) hown hgr hbb hgl
        obtain ⟨⟨d0, d1⟩, hp⟩ := hp
        have HP := hide hp
        clear hp hown hgr hbb hgl hra
        go_wp2
        go_roundw
        case rel =>
          obtain ⟨p1, p2, p3, p4, p5, p6, p7⟩ := unhide HP
          have hcur : ap s (A ++ [(a, Value.slice ao Q.length cl)]).length x = some (k + 1) := by
            have e1 := ap_last s A.length x
            rw [(unhide HX).cur] at e1
            simp only at e1
            rw [(unhide HX).fe2, unhide hfk, if_pos (unhide HC)] at e1
            simpa using e1
          refine hide ⟨k + 1, _, A ++ [(a, Value.slice ao Q.length cl)], [], k + 1, m, gn, by go_num, ⟨p1, p2, p3, by simpa using p5, World.ownsRow_nil _ _ _ _, .inr (by simp [Value.ownBlock]), p6, hcur, by simp, rfl, fun q hq => by simp at hq, by simp; omega⟩, (unhide HB).trans p7, by omega, unhide HGD, (unhide HEE).trans (unhide hek), by omega⟩
        case measure => simp [intOf]; omega
    · -- a bracket that opens
      have HX := hide hXI
      have HEE := hide hee
      have HGD := hide hg
      have HB := hide hB
      have HC := hide hc
      have HBK := hide hbk
      rw [hbk] at hc
      clear hXI hee hg hB hbk hrel
      have hF : Hid (isF s k = true) := hide (by unfold isF; rw [unhide HC]; simp)
      have hin := inner s gn (k + 1) d (unhide HGD)
      have hbh : Hid (bh s k = ee s (k + 1) + 1) := hide (bh_open (unhide HGD) (unhide HC))
      have hek : Hid (ee s k = ee s (ee s (k + 1) + 1)) := hide (by rw [ee_fac (unhide hF), unhide hbh])
      obtain ⟨hin1, hin2, hin3, ⟨m2, hin4, hin5⟩, hin6, hin7⟩ := hin
      have HG2 := hide hin5
      clear hin3 hin5 hin6 hin7
      have HO : Hid (cO (s[k].toNat : Int) = true) := hide hc
      have HL : Hid (cL (s[k].toNat : Int) = false) := hide (by rcases cO_vals hc with e | e | e | e <;> rw [e] <;> decide)
      have HN : Hid (cN (s[k].toNat : Int) = false) := hide (by rcases cO_vals hc with e | e | e | e <;> rw [e] <;> decide)
      have hzne : (cC (s[k].toNat : Int) != 0) = true := by simpa [cO] using hc
      clear hc
      go_wp2_with (first | (go_at_call 74; refine (rclosing_any _ _).mono ?_; rintro e w' ⟨rfl, hw⟩; replace hw := hw.symm; subst hw) | (go_at_call 78; refine (letter_any _ _).mono ?_; rintro e w' ⟨rfl, hw⟩; replace hw := hw.symm; subst hw; rw [unhide HL]) | (go_at_call 31; refine (name_any _ _).mono ?_; rintro e w' ⟨rfl, hw⟩; replace hw := hw.symm; subst hw; rw [unhide HN]))
      refine (unhide IH gn (by omega) _ (k + 1) (d + 1) _ (by omega) (unhide HGD)).mono ?_
      rintro e w1 ⟨m1, rfl, hE1, hB1⟩
      have hX1 := (((unhide HX).below hB1).deeper (m' := max m m1) (by omega))
      have hs1 : SubIn w1 s (max m m1) (Sx w.heap.size w1 va u7) (k, .pointer (some ⟨wr.heap.size, 0, none⟩)) := by
        refine .inr ⟨unhide HC, _, rfl, EA.frame (fun _ _ => rfl) (fun b hb => ?_) m1 _ _ _ (by omega) hE1⟩
        refine ⟨by have := hb.1; omega, hb.2, fun e => ?_, fun e => ?_⟩
        · have := (unhide HX).ra.lt b e.symm; have := hb.1; omega
        · have := (unhide HX).rl.lt b e.symm; have := hb.1; omega
      have hrl := hX1.rl
      have hsz1 := hB1.size
      have HB1 := hide ((unhide HB).trans (hB1.mono (unhide HB).size))
      have HX1 := hide hX1
      have HS1 := hide hs1
      clear hX1 hs1 hE1 hB1
      go_wp2_with (first | (at_builtin; refine wpList_append_lies _ rfl _ _ 156 rfl (w.heap.size + 1) 67 i0 (.agg #[.int .u8 0, .pointer none]) 2 16 Tryz.underlying156 hi0 hz0 hz1 hz2 rfl (by decide) _ _ _ rfl (hrl.alloc _) ⟨_, 0, none⟩ 1 1 [.int .u8 (s[k].toNat : Int), .pointer (some ⟨wr.heap.size, 0, none⟩)] rfl rfl ?c1 ?c2 ?c3 ?c4 ?c5 ?c6 _ rfl ?_) | go_in)
      case c1 => exact World.news_of_block (heap_alloc_new _ _)
      case c2 => intro u hu; simp at hu; rcases hu with rfl | rfl <;> rfl
      case c3 => omega
      case c4 => unfold maxLen; omega
      case c5 => omega
      case c6 => simp; omega
      · intro g cap w2 hown hgr hbb hgl
        have hp := (unhide HX1).push (g := g) (cap := cap) (sv := .pointer (some ⟨wr.heap.size, 0, none⟩)) (unhide hF) (unhide hbh) (unhide HS1) (by rw [unhide HBK]; exact hown) hgr hbb
        have HP := hide hp
        clear hp hown hgr hbb hgl hrl
        go_wp2
        go_roundw
        case rel => exact hide ⟨ee s (k + 1) + 1, va, A, _, a, _, m2, by go_num, (unhide HP).1, (unhide HB1).trans ((unhide HP).2.mono (by omega)), by omega, unhide HG2, (unhide HEE).trans (unhide hek), by omega⟩
        case measure => simp [intOf]; omega
    · -- a bracket that closes
      obtain ⟨ao, cl, hu7⟩ := hXI.vlForm
      subst hu7
      have hra := hXI.ra
      have c0 := hXI.cell
      have HX := hide hXI
      have HEE := hide hee
      have HB := hide hB
      have HC := hide hc
      have HBK := hide hbk
      rw [hbk] at hc
      clear hXI hee hB hbk hrel
      have hv := close_not (unhide HC)
      have hF : Hid (isF s k = false) := hide (by unfold isF; rw [hv.1, hv.2.1, hv.2.2.1]; rfl)
      have hn124 : Hid (bt s k ≠ 124) := hide hv.2.2.2
      have HL : Hid (cL (s[k].toNat : Int) = false) := hide (by rw [← unhide HBK]; exact hv.1)
      have HN : Hid (cN (s[k].toNat : Int) = false) := hide (by rw [← unhide HBK]; exact hv.2.1)
      have HZ : Hid (cC (s[k].toNat : Int) = 0) := hide (by rw [← unhide HBK]; simpa [cO] using hv.2.2.1)
      have h124 : ((s[k].toNat : Int) == 124) = false := by simp only [beq_eq_false_iff_ne]; rw [← unhide HBK]; exact hv.2.2.2
      clear hv
      have hfk : Hid ((fe s k).2 = k) := hide (by rw [fe_no (unhide hF)])
      have hek : Hid (ee s k = k) := hide (by rw [ee_end (by rw [unhide hfk]; exact unhide hn124), unhide hfk])
      clear hc
      go_wp2_with (first | (go_at_call 74; refine (rclosing_any _ _).mono ?_; rintro e w' ⟨rfl, hw⟩; replace hw := hw.symm; subst hw; rw [unhide HZ]) | (go_at_call 78; refine (letter_any _ _).mono ?_; rintro e w' ⟨rfl, hw⟩; replace hw := hw.symm; subst hw; rw [unhide HL]) | (go_at_call 31; refine (name_any _ _).mono ?_; rintro e w' ⟨rfl, hw⟩; replace hw := hw.symm; subst hw; rw [unhide HN]) | (at_builtin; refine wpList_append_lies _ rfl _ _ 153 rfl (w.heap.size + 1) 156 i1 (.slice none 0 0) 1 24 Tryz.underlying153 hi1 hy0 hy1 hy2 rfl (by decide) _ _ _ rfl (hra.alloc _) ⟨_, 0, none⟩ 1 1 [.slice ao Q.length cl] rfl rfl ?c1 ?c2 ?c3 ?c4 ?c5 ?c6 _ rfl ?_) | go_in)
      case c1 => exact World.news_of_block (heap_alloc_new _ _)
      case c2 => intro u hu; simp at hu; subst hu; rfl
      case c3 => omega
      case c4 => unfold maxLen; omega
      case c5 => omega
      case c6 => simp; omega
      · intro g cap w2 hown hgr hbb hgl
        have hp := (unhide HX).shut (g := g) (cap := cap) (unhide hF) hown hgr hbb hgl
        obtain ⟨⟨d0, d1⟩, hp⟩ := hp
        have HP := hide hp
        clear hp hown hgr hbb hgl hra
        go_wp2
        go_ret2
        obtain ⟨p1, p2, p3, p4, p5, p6, p7⟩ := unhide HP
        have hnone : ap s (A ++ [(a, Value.slice ao Q.length cl)]).length x = none := by
          have e1 := ap_last s A.length x
          rw [(unhide HX).cur] at e1
          simp only at e1
          rw [(unhide HX).fe2, unhide hfk, if_neg (unhide hn124)] at e1
          simpa using e1
        refine ⟨m + 1, by rw [unhide HEE, unhide hek]; rfl, EA_of_parts p1 p2 p4 p5 p6 hnone (by simp; omega), (unhide HB).trans (p7.mono (by omega))⟩
    · -- the rule's end
      obtain ⟨ao, cl, hu7⟩ := hXI.vlForm
      subst hu7
      have hra := hXI.ra
      have c0 := hXI.cell
      have HX := hide hXI
      have HEE := hide hee
      have HB := hide hB
      have HC := hide hc
      have HBK := hide hbk
      rw [hbk] at hc
      clear hXI hee hB hbk hrel
      have hF : Hid (isF s k = false) := hide (by unfold isF; rw [unhide HC]; decide)
      have hn124 : Hid (bt s k ≠ 124) := hide (by rw [unhide HC]; decide)
      have HL : Hid (cL (s[k].toNat : Int) = false) := hide (by rw [hc]; decide)
      have HN : Hid (cN (s[k].toNat : Int) = false) := hide (by rw [hc]; decide)
      have HZ : Hid (cC (s[k].toNat : Int) = 0) := hide (by rw [hc]; decide)
      have h124 : ((s[k].toNat : Int) == 124) = false := by simp only [beq_eq_false_iff_ne]; rw [hc]; decide
      have hfk : Hid ((fe s k).2 = k) := hide (by rw [fe_no (unhide hF)])
      have hek : Hid (ee s k = k) := hide (by rw [ee_end (by rw [unhide hfk]; exact unhide hn124), unhide hfk])
      clear hc
      go_wp2_with (first | (go_at_call 74; refine (rclosing_any _ _).mono ?_; rintro e w' ⟨rfl, hw⟩; replace hw := hw.symm; subst hw; rw [unhide HZ]) | (go_at_call 78; refine (letter_any _ _).mono ?_; rintro e w' ⟨rfl, hw⟩; replace hw := hw.symm; subst hw; rw [unhide HL]) | (go_at_call 31; refine (name_any _ _).mono ?_; rintro e w' ⟨rfl, hw⟩; replace hw := hw.symm; subst hw; rw [unhide HN]) | (at_builtin; refine wpList_append_lies _ rfl _ _ 153 rfl (w.heap.size + 1) 156 i1 (.slice none 0 0) 1 24 Tryz.underlying153 hi1 hy0 hy1 hy2 rfl (by decide) _ _ _ rfl (hra.alloc _) ⟨_, 0, none⟩ 1 1 [.slice ao Q.length cl] rfl rfl ?c1 ?c2 ?c3 ?c4 ?c5 ?c6 _ rfl ?_) | go_in)
      case c1 => exact World.news_of_block (heap_alloc_new _ _)
      case c2 => intro u hu; simp at hu; subst hu; rfl
      case c3 => omega
      case c4 => unfold maxLen; omega
      case c5 => omega
      case c6 => simp; omega
      · intro g cap w2 hown hgr hbb hgl
        have hp := (unhide HX).shut (g := g) (cap := cap) (unhide hF) hown hgr hbb hgl
        obtain ⟨⟨d0, d1⟩, hp⟩ := hp
        have HP := hide hp
        clear hp hown hgr hbb hgl hra
        go_wp2
        go_ret2
        obtain ⟨p1, p2, p3, p4, p5, p6, p7⟩ := unhide HP
        have hnone : ap s (A ++ [(a, Value.slice ao Q.length cl)]).length x = none := by
          have e1 := ap_last s A.length x
          rw [(unhide HX).cur] at e1
          simp only at e1
          rw [(unhide HX).fe2, unhide hfk, if_neg (unhide hn124)] at e1
          simpa using e1
        refine ⟨m + 1, by rw [unhide HEE, unhide hek]; rfl, EA_of_parts p1 p2 p4 p5 p6 hnone (by simp; omega), (unhide HB).trans (p7.mono (by omega))⟩
end Go.Proofs.YtnfaiaoipeholaaGreatDoor

namespace Go.Proofs.YtnfaiaoipeholaaGreatDoor
open Go.RowKit

/-- a height and an end: 0 and -1 where there is none -/
def rr (r : Option (Nat × Nat)) : Ending := match r with
  | none => .returned (.tuple #[.int .i64 0, .int .i64 (-1)])
  | some (j, h) => .returned (.tuple #[.int .i64 h, .int .i64 j])

/-- what is asked of the world -/
structure Wd (w : World) (s t : ByteArray) (B g : Nat) : Prop where
  gr : Gr w s B g
  hB : B ≤ w.heap.size
  hs : s.size ≤ 300
  ht : t.size ≤ 2000
theorem Wd.below {w w' : World} {s t : ByteArray} {B g : Nat} (h : Wd w s t B g) (hb : Below w.heap.size w w') : Wd w' s t B g :=
  ⟨h.gr.below hb h.hB, Nat.le_trans h.hB hb.size, h.hs, h.ht⟩

/-- expressions, to this depth -/
def SaidT (s t : ByteArray) (B g : Nat) (most : Int) (n : Nat) : Prop :=
  ∀ (q : Int) (p x m i : Nat) (w : World), Wd w s t B g → EA w s m (fun b => b < B) p x → q = i → i ≤ 2010 → t.size < i + n →
    Calls Tryz.prog 126 #[.pointer (some ⟨g, 0, none⟩), .pointer (some ⟨p, 0, none⟩), .string t, .int .i64 q, .int .i64 most] w fun e w' => e = rr (pE s t most n x i) ∧ Below w.heap.size w w'

set_option maxHeartbeats 400000 in
theorem higher_any (a b : Int) (w : World) : Calls Tryz.prog 158 #[.int .i64 a, .int .i64 b] w fun e w' => e = .returned (.int .i64 (max a b)) ∧ w' = w := by
  go_enter Tryz.func158, Tryz.ntmps158
  go_wp2
  all_goals (go_ret; exact ⟨ret_int (by omega), rfl⟩)

theorem bcell' {W w1 : World} (hb : Below W.heap.size W w1) : (∀ b o, b < W.heap.size → w1.cell? ⟨b, o, none⟩ = W.cell? ⟨b, o, none⟩) ∧ (∀ b o, b < W.heap.size → w1.frozen? ⟨b, o, none⟩ = W.frozen? ⟨b, o, none⟩) :=
  ⟨fun b o h => hb.cell (p := ⟨b, o, none⟩) h, fun b o h => hb.frozen (p := ⟨b, o, none⟩) h⟩

section
variable {s t : ByteArray} {B g : Nat} {most : Int}

end
end Go.Proofs.YtnfaiaoipeholaaGreatDoor

namespace Go.Proofs.YtnfaiaoipeholaaGreatDoor
open Go.RowKit
theorem rr_form (r : Option (Nat × Nat)) : ∃ a b : Int, rr r = .returned (.tuple #[.int .i64 a, .int .i64 b]) := by
  cases r with
  | none => exact ⟨0, -1, rfl⟩
  | some y => exact ⟨y.2, y.1, rfl⟩
section
variable {s t : ByteArray} {B g : Nat} {most : Int}

set_option maxHeartbeats 1000000 in
set_option maxRecDepth 1000000 in
theorem rname_any {n : Nat} (hn : n ≤ 2005) (hT : SaidT s t B g most n) (f i : Nat) (w : World) (v : Wd w s t B g) (hi : i ≤ 2003) (hin : t.size < i + n) (hl : i < t.size) (h1' : ((t[i].toNat : Int) != bt s f) = false) (h3 : cN (bt s f) = true) (h2f : cL (bt s f) = false) :
    Calls Tryz.prog 69 #[.pointer (some ⟨g, 0, none⟩), .agg #[.int .u8 (bt s f), .pointer none], .string t, .int .i64 i, .int .i64 most] w fun e w' => e = rr (pN s t (pE s t most n) f (i + 1)) ∧ Below w.heap.size w w' := by
  have ht := v.ht
  have H2 := hide h2f; clear h2f
  generalize hR : pN s t (pE s t most n) f (i + 1) = R
  have hv : 65 ≤ bt s f ∧ bt s f ≤ 90 := by simpa [cN] using h3
  obtain ⟨p, m, j, hj, hj2, hcell, hE⟩ := v.gr.rules f h3
  have H3 := hide h3
  have hglt : g < w.heap.size := Nat.lt_of_lt_of_le v.gr.lt v.hB
  have hbb : Below w.heap.size w (w.alloc (.cells #[.int .u8 (bt s f), .pointer none] 67)) := (Below.refl _ _).alloc (Nat.le_refl _) _
  unfold pN at hR
  clear h3
  by_cases hl1 : i + 1 < t.size
  case neg =>
    rw [if_pos (by rw [bt_out t (i + 1 : Nat) (by omega)]; omega)] at hR
    subst hR
    go_enter Tryz.func69, Tryz.ntmps69
    go_wp2_with fail
    go_quiet (fail)
    go_wp2_with (first | (go_at_call 78; refine (letter_any _ _).mono ?_; rintro e w' ⟨rfl, hw⟩; subst hw; rw [unhide H2]) | (go_at_call 31; refine (name_any _ _).mono ?_; rintro e w' ⟨rfl, hw⟩; subst hw; rw [unhide H3]))
    go_ret2
    exact ⟨rfl, below_drewN hbb _⟩
  have hb1 := bt_at t (i + 1) hl1
  by_cases h40 : bt t (i + 1 : Nat) = 40
  case neg =>
    rw [if_pos h40] at hR
    subst hR
    rw [hb1] at h40
    have h40' : ((t[i + 1].toNat : Int) != 40) = true := by simp only [bne_iff_ne]; exact h40
    clear h40 hb1
    go_enter Tryz.func69, Tryz.ntmps69
    go_wp2_with fail
    go_quiet (fail)
    go_wp2_with (first | (go_at_call 78; refine (letter_any _ _).mono ?_; rintro e w' ⟨rfl, hw⟩; subst hw; rw [unhide H2]) | (go_at_call 31; refine (name_any _ _).mono ?_; rintro e w' ⟨rfl, hw⟩; subst hw; rw [unhide H3]))
    go_ret2
    exact ⟨rfl, below_drewN hbb _⟩
  rw [if_neg (by simp only [ne_eq, Decidable.not_not]; exact h40), hj, show ((j : Int) + 2).toNat = j + 2 by omega] at hR
  rw [hb1] at h40
  have h40' : ((t[i + 1].toNat : Int) != 40) = false := by simp only [bne_eq_false_iff_eq]; exact h40
  have HR := hide hR
  obtain ⟨hv1, hv2⟩ := hv
  clear h40 hb1 hR hj
  have hix : bt s f - 65 < 26 := by omega
  have hix0 : 0 ≤ bt s f - 65 := by omega
  have hwr : IntKind.u8.wrap (bt s f - 65) = bt s f - 65 := by simp [IntKind.wrap, IntKind.signed, IntKind.bits]; omega
  have hw2 : IntKind.i64.wrap ((i : Int) + 2) = (i : Int) + 2 := by simp [IntKind.wrap, IntKind.signed, IntKind.bits]; omega
  go_enter Tryz.func69, Tryz.ntmps69
  go_wp2_with fail
  go_quiet (fail)
  go_wp2_with (first | (go_at_call 78; refine (letter_any _ _).mono ?_; rintro e w' ⟨rfl, hw⟩; subst hw; rw [unhide H2]) | (go_at_call 31; refine (name_any _ _).mono ?_; rintro e w' ⟨rfl, hw⟩; subst hw; rw [unhide H3]))
  go_region_with (go_at_call 126; refine (hT _ p (j + 2) m (i + 2) _ ?_ ?_ ?_ ?_ ?_).mono ?_; exact v.below (below_drewN hbb _); exact hE.below (below_drewN hbb _) v.hB; omega; omega; omega; rintro e w2 ⟨he, hb2⟩; obtain ⟨a, b, hab⟩ := rr_form (pE s t most n (j + 2) (i + 2)); rw [hab] at he; subst he; have HAB := hide hab; clear hab)
  have hab := unhide HAB
  clear HAB
  have hR := unhide HR
  clear HR
  cases hq : pE s t most n (j + 2) (i + 2) with
  | none =>
    rw [hq] at hab hR
    simp only at hR
    subst hR
    simp only [rr, Ending.returned.injEq, Value.tuple.injEq, Array.mk.injEq, List.cons.injEq, Value.int.injEq, true_and, and_true] at hab
    obtain ⟨rfl, rfl⟩ := hab
    clear hq
    go_wp2
    go_ret2
    exact ⟨rfl, (below_drewN hbb _).trans (hb2.mono (by simp))⟩
  | some y =>
    obtain ⟨j1, h1⟩ := y
    rw [hq] at hab hR
    simp only at hR
    simp only [rr, Ending.returned.injEq, Value.tuple.injEq, Array.mk.injEq, List.cons.injEq, Value.int.injEq, true_and, and_true] at hab
    obtain ⟨rfl, rfl⟩ := hab
    have hfw := pE_fwd s t most n (j + 2) (i + 2) j1 h1 hq
    obtain ⟨hfw1, hfw2, hfw3⟩ := hfw
    have hh1 : h1 ≤ 2005 := by omega
    clear hq
    by_cases hj1 : j1 < t.size
    case neg =>
      rw [if_neg (by rw [bt_out t j1 (by omega)]; omega)] at hR
      subst hR
      go_wp2
      go_ret2
      exact ⟨rfl, (below_drewN hbb _).trans (hb2.mono (by simp))⟩
    case pos =>
      have hbj := bt_at t j1 hj1
      rw [hbj] at hR
      clear hbj
      by_cases h41 : (t[j1].toNat : Int) = 41
      · rw [if_pos h41] at hR
        subst hR
        have h41' : ((t[j1].toNat : Int) != 41) = false := by simp only [bne_eq_false_iff_eq]; exact h41
        clear h41
        go_wp2
        go_ret2
        exact ⟨by simp only [rr]; go_num, (below_drewN hbb _).trans (hb2.mono (by simp))⟩
      · rw [if_neg h41] at hR
        subst hR
        have h41' : ((t[j1].toNat : Int) != 41) = true := by simp only [bne_iff_ne]; exact h41
        clear h41
        go_wp2
        go_ret2
        exact ⟨rfl, (below_drewN hbb _).trans (hb2.mono (by simp))⟩
end
end Go.Proofs.YtnfaiaoipeholaaGreatDoor
