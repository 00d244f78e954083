/- An expression while the reference builds it: what is done, what may still be written. -/
import Derived.Test.YtnfaiaoipeholaaGreatHeap
import Derived.Deep.AppendLies
namespace Go.Proofs.YtnfaiaoipeholaaGreat
open Go.RowKit

/-- the cells of factors -/
def cells (s : ByteArray) (Q : List (Nat × Value)) : List Value := Q.flatMap fun q => [.int .u8 (bt s q.1), q.2]
theorem cells_len (s : ByteArray) : ∀ Q : List (Nat × Value), (cells s Q).length = Q.length * 2
  | [] => rfl
  | q :: Q => by show ([_, _] ++ cells s Q).length = _; rw [List.length_append, cells_len s Q]; simp; omega
theorem cells_at (s : ByteArray) : ∀ (Q : List (Nat × Value)) (j : Nat) (q : Nat × Value), Q[j]? = some q → (cells s Q)[j * 2]? = some (.int .u8 (bt s q.1)) ∧ (cells s Q)[j * 2 + 1]? = some q.2
  | [], j, q, h => by simp at h
  | q0 :: Q, 0, q, h => by simp at h; subst h; exact ⟨rfl, rfl⟩
  | q0 :: Q, j + 1, q, h => by
    have := cells_at s Q j q (by simpa using h)
    have e : cells s (q0 :: Q) = [.int .u8 (bt s q0.1), q0.2] ++ cells s Q := rfl
    rw [e, List.getElem?_append_right (by simp; omega), List.getElem?_append_right (by simp; omega)]
    simp only [List.length_cons, List.length_nil]
    rw [show (j + 1) * 2 - (0 + 1 + 1) = j * 2 by omega, show (j + 1) * 2 + 1 - (0 + 1 + 1) = j * 2 + 1 by omega]
    exact this
theorem cells_push (s : ByteArray) (Q : List (Nat × Value)) (k : Nat) (v : Value) : cells s (Q ++ [(k, v)]) = cells s Q ++ [.int .u8 (bt s k), v] := by simp [cells]

/-- what a factor's second field holds -/
def SubIn (w : World) (s : ByteArray) (m : Nat) (S : Nat → Prop) (q : Nat × Value) : Prop :=
  (cO (bt s q.1) = false ∧ q.2 = .pointer none) ∨ (cO (bt s q.1) = true ∧ ∃ p, q.2 = .pointer (some ⟨p, 0, none⟩) ∧ EA w s m S p (q.1 + 1))
theorem SubIn.frame {w w' : World} {s : ByteArray} {m m' : Nat} {S S' : Nat → Prop} {q : Nat × Value} (h : SubIn w s m S q) (hw : ∀ b, S b → w'.heap[b]? = w.heap[b]?) (hS : ∀ b, S b → S' b) (hm : m ≤ m') : SubIn w' s m' S' q := by
  rcases h with h | ⟨h1, p, h2, h3⟩
  · exact .inl h
  · exact .inr ⟨h1, p, h2, EA.frame hw hS m m' p _ hm h3⟩

/-- the blocks that are written no more -/
def Sx (eb : Nat) (w : World) (va vl : Value) (b : Nat) : Prop := eb + 1 ≤ b ∧ b < w.heap.size ∧ some b ≠ va.ownBlock ∧ some b ≠ vl.ownBlock

structure XI (w : World) (s : ByteArray) (eb x m k : Nat) (va vl : Value) (A Q : List (Nat × Value)) (a : Nat) : Prop where
  lt : eb < w.heap.size
  cell : w.cell? ⟨eb, 0, none⟩ = some va
  froz : w.frozen? ⟨eb, 0, none⟩ = false
  ra : w.ownsRow (eb + 1) 158 1 va A.length (A.map Prod.snd)
  rl : w.ownsRow (eb + 1) 98 2 vl Q.length (cells s Q)
  ne : va.ownBlock = none ∨ va.ownBlock ≠ vl.ownBlock
  alts : ∀ j y, A[j]? = some y → ap s j x = some y.1 ∧ AAt w (EA w s m (Sx eb w va vl)) (Sx eb w va vl) s y.2 (fe s y.1).1
  cur : ap s A.length x = some a
  fe1 : (fe s a).1 = Q.map Prod.fst ++ (fe s k).1
  fe2 : (fe s a).2 = (fe s k).2
  subs : ∀ q, q ∈ Q → SubIn w s m (Sx eb w va vl) q
  cnt : A.length + Q.length ≤ k

theorem XI.start {w : World} {s : ByteArray} {x : Nat} : XI (w.alloc (.cells #[.slice none 0 0] 157)) s w.heap.size x 0 x (.slice none 0 0) (.slice none 0 0) [] [] x := by
  refine ⟨by simp, by rw [World.cell?_alloc_new]; rfl, by rw [World.frozen?_alloc_new], World.ownsRow_nil _ _ _ _, World.ownsRow_nil _ _ _ _, .inl rfl, fun j y h => by simp at h, rfl, by simp, rfl, fun q h => by simp at h, by simp⟩

section
variable {w w1 w2 : World} {s : ByteArray} {eb x m k a : Nat} {va vl : Value} {A Q : List (Nat × Value)}

theorem ownsRow_below {w w' : World} {base : Nat} {e : TypeId} {size : Nat} {v : Value} {n : Nat} {xs : List Value} (h : w.ownsRow base e size v n xs) (hb : Below w.heap.size w w') : w'.ownsRow base e size v n xs :=
  h.kept (row := none) ⟨hb.os, hb.tape, hb.output, hb.size, fun k hk _ => hb.block k hk⟩ (by cases hv : v.ownBlock <;> simp)

/-- more memory -/
theorem XI.below (h : XI w s eb x m k va vl A Q a) (hb : Below w.heap.size w w1) : XI w1 s eb x m k va vl A Q a := by
  have hS : ∀ b, Sx eb w va vl b → Sx eb w1 va vl b := fun b hh => ⟨hh.1, Nat.lt_of_lt_of_le hh.2.1 hb.size, hh.2.2⟩
  have hw : ∀ b, Sx eb w va vl b → w1.heap[b]? = w.heap[b]? := fun b hh => hb.block b hh.2.1
  refine ⟨Nat.lt_of_lt_of_le h.lt hb.size, (hb.cell (p := ⟨eb, 0, none⟩) h.lt).trans h.cell, (hb.frozen (p := ⟨eb, 0, none⟩) h.lt).trans h.froz, ownsRow_below h.ra hb, ownsRow_below h.rl hb, h.ne, fun j y hy => ?_, h.cur, h.fe1, h.fe2, fun q hq => (h.subs q hq).frame hw hS (Nat.le_refl _), h.cnt⟩
  obtain ⟨h1, h2⟩ := h.alts j y hy
  exact ⟨h1, h2.frame hw hS (fun p x hh => EA.frame hw hS m m p x (Nat.le_refl _) hh)⟩
theorem XI.deeper (h : XI w s eb x m k va vl A Q a) {m' : Nat} (hm : m ≤ m') : XI w s eb x m' k va vl A Q a :=
  { h with
    alts := fun j y hy => ⟨(h.alts j y hy).1, (h.alts j y hy).2.frame (fun _ _ => rfl) (fun _ hh => hh) (fun p x hh => EA.frame (fun _ _ => rfl) (fun _ hh => hh) m m' p x hm hh)⟩
    subs := fun q hq => (h.subs q hq).frame (fun _ _ => rfl) (fun _ hh => hh) hm }

/-- one factor more -/
theorem XI.push (h : XI w s eb x m k va vl A Q a) {o : Obj} {g cap k' : Nat} {sv : Value} (hF : isF s k = true) (hk' : bh s k = k')
    (hs : SubIn w s m (Sx eb w va vl) (k, sv)) (hown : w2.ownsRow (eb + 1) 98 2 (.slice (some ⟨g, 0, none⟩) (Q.length + 1) cap) (Q.length + 1) (cells s Q ++ [.int .u8 (bt s k), sv]))
    (hg : (w.alloc o).grownBy w2 vl.ownBlock) (hb : vl.ownBlock = some g ∨ g = w.heap.size + 1) :
    XI w2 s eb x m k' va (.slice (some ⟨g, 0, none⟩) (Q.length + 1) cap) A (Q ++ [(k, sv)]) a ∧ Below (eb + 1) w w2 := by
  have hsz : w.heap.size + 1 ≤ w2.heap.size := by have := hg.size; simpa using this
  have hvl : ∀ b, vl.ownBlock = some b → eb + 1 ≤ b ∧ b < w.heap.size := h.rl.lt
  have hva : ∀ b, va.ownBlock = some b → eb + 1 ≤ b ∧ b < w.heap.size := h.ra.lt
  have hblk : ∀ b, b < w.heap.size → some b ≠ vl.ownBlock → w2.heap[b]? = w.heap[b]? := fun b hb1 hb2 =>
    (hg.block b (by simp; omega) hb2).trans (Below.heap_alloc w o b hb1)
  have hS : ∀ b, Sx eb w va vl b → Sx eb w2 va (.slice (some ⟨g, 0, none⟩) (Q.length + 1) cap) b := fun b hh => by
    refine ⟨hh.1, by have := hh.2.1; omega, hh.2.2.1, ?_⟩
    simp only [Value.ownBlock]
    intro e
    have e : b = g := by simpa using e
    rcases hb with hb | hb
    · exact hh.2.2.2 (by rw [hb, e])
    · have := hh.2.1; omega
  have hw : ∀ b, Sx eb w va vl b → w2.heap[b]? = w.heap[b]? := fun b hh => hblk b hh.2.1 hh.2.2.2
  have hebn : some eb ≠ vl.ownBlock := fun e => by have := hvl eb e.symm; omega
  have hbb := bh_bd hF
  refine ⟨⟨by have := h.lt; omega, ?_, ?_, ?_, ?_, ?_, fun j y hy => ?_, h.cur, ?_, ?_, fun q hq => ?_, ?_⟩, ?_⟩
  · exact (World.cell?_of_block (a := ⟨eb, 0, none⟩) (hblk eb h.lt hebn)).trans h.cell
  · exact (World.frozen?_of_block (a := ⟨eb, 0, none⟩) (hblk eb h.lt hebn)).trans h.froz
  · refine (h.ra.alloc o).kept hg ?_
    rcases h.ne with e | e
    · exact .inl e
    · exact .inr e
  · rw [cells_push]; simpa using hown
  · cases hv : va.ownBlock with
    | none => exact .inl rfl
    | some b =>
      right
      simp only [Value.ownBlock]
      intro e
      have e : b = g := by simpa using e
      have hb3 := hva b hv
      rcases hb with hb | hb
      · rcases h.ne with e1 | e1
        · rw [hv] at e1; cases e1
        · exact e1 (by rw [hv, hb, e])
      · omega
  · obtain ⟨h1, h2⟩ := h.alts j y hy
    exact ⟨h1, h2.frame hw hS (fun p x hh => EA.frame hw hS m m p x (Nat.le_refl _) hh)⟩
  · rw [h.fe1, fe_yes hF, hk']; simp
  · rw [h.fe2, fe_yes hF, hk']
  · rcases List.mem_append.1 hq with hq | hq
    · exact (h.subs q hq).frame hw hS (Nat.le_refl _)
    · simp at hq; subst hq; exact hs.frame hw hS (Nat.le_refl _)
  · have := h.cnt; simp; omega
  · refine ⟨hg.os, hg.tape, hg.output, by omega, fun b hb1 => ?_⟩
    have := h.lt
    exact hblk b (by omega) (fun e => by have := hvl b e.symm; omega)

/-- a slice of factors, as an alternative -/
theorem AAt_of_row {sub : Nat → Nat → Prop} {S : Nat → Prop} {base : Nat} (h : w.ownsRow base 98 2 vl Q.length (cells s Q)) (hS : ∀ b, vl.ownBlock = some b → S b)
    (hq : ∀ q, q ∈ Q → (cO (bt s q.1) = false ∧ q.2 = .pointer none) ∨ (cO (bt s q.1) = true ∧ ∃ p, q.2 = .pointer (some ⟨p, 0, none⟩) ∧ sub p (q.1 + 1))) : AAt w sub S s vl (Q.map Prod.fst) := by
  rcases id h.2 with ⟨rfl, hn⟩ | ⟨g, cap, cur, rfl, hb, hg, hnc, hcm, hcs, htake⟩
  · exact ⟨none, 0, by simp [hn], fun j hj => by simp at hj; omega⟩
  · refine ⟨some ⟨g, 0, none⟩, cap, by simp, fun j hj => ⟨g, rfl, hS g rfl, ?_⟩⟩
    have hj' : j < Q.length := by simpa using hj
    have hqj : Q[j]? = some Q[j] := List.getElem?_eq_getElem hj'
    obtain ⟨c1, c2⟩ := cells_at s Q j Q[j] hqj
    have e : (Q.map Prod.fst).getD j 0 = Q[j].1 := by simp [List.getD_eq_getElem?_getD, hj']
    rw [e]
    have hc1 : w.cell? ⟨g, j * 2, none⟩ = some (.int .u8 (bt s Q[j].1)) := by rw [h.cellAt (j * 2) (by omega)]; exact c1
    have hc2 : w.cell? ⟨g, j * 2 + 1, none⟩ = some Q[j].2 := by rw [h.cellAt (j * 2 + 1) (by omega)]; exact c2
    refine ⟨hc1, ?_⟩
    rcases hq Q[j] (List.getElem_mem hj') with ⟨a1, a2⟩ | ⟨a1, p, a2, a3⟩
    · exact .inl ⟨a1, by rw [hc2, a2]⟩
    · exact .inr ⟨a1, p, by rw [hc2, a2], a3⟩

/-- the alternative is laid among the others -/
theorem XI.shut (h : XI w s eb x m k va vl A Q a) {o : Obj} {g cap : Nat} (hF : isF s k = false)
    (hown : w2.ownsRow (eb + 1) 158 1 (.slice (some ⟨g, 0, none⟩) (A.length + 1) cap) (A.length + 1) (A.map Prod.snd ++ [vl]))
    (hg : (w.alloc o).grownBy w2 va.ownBlock) (hb : va.ownBlock = some g ∨ g = w.heap.size + 1) (hgl : g < w2.heap.size) :
    (w2.cell? ⟨eb, 0, none⟩ = some va ∧ w2.frozen? ⟨eb, 0, none⟩ = false) ∧
    (let w3 := w2.setCell ⟨eb, 0, none⟩ (.slice (some ⟨g, 0, none⟩) (A.length + 1) cap)
     let S3 := Sx eb w3 (.slice (some ⟨g, 0, none⟩) (A.length + 1) cap) (.slice none 0 0)
     eb < w3.heap.size ∧ w3.cell? ⟨eb, 0, none⟩ = some (.slice (some ⟨g, 0, none⟩) (A.length + 1) cap) ∧ w3.frozen? ⟨eb, 0, none⟩ = false ∧ eb + 1 ≤ g ∧
     w3.ownsRow (eb + 1) 158 1 (.slice (some ⟨g, 0, none⟩) (A.length + 1) cap) (A.length + 1) ((A ++ [(a, vl)]).map Prod.snd) ∧
     (∀ j y, (A ++ [(a, vl)])[j]? = some y → ap s j x = some y.1 ∧ AAt w3 (EA w3 s m S3) S3 s y.2 (fe s y.1).1) ∧ Below eb w w3) := by
  have hsz : w.heap.size + 1 ≤ w2.heap.size := by have := hg.size; simpa using this
  have hvl : ∀ b, vl.ownBlock = some b → eb + 1 ≤ b ∧ b < w.heap.size := h.rl.lt
  have hva : ∀ b, va.ownBlock = some b → eb + 1 ≤ b ∧ b < w.heap.size := h.ra.lt
  have hlt := h.lt
  have hgeb : eb + 1 ≤ g := by
    rcases hb with hb | hb
    · exact (hva g hb).1
    · omega
  have hblk2 : ∀ b, b < w.heap.size → some b ≠ va.ownBlock → w2.heap[b]? = w.heap[b]? := fun b hb1 hb2 =>
    (hg.block b (by simp; omega) hb2).trans (Below.heap_alloc w o b hb1)
  have hebn : some eb ≠ va.ownBlock := fun e => by have := hva eb e.symm; omega
  have hc2 : w2.cell? ⟨eb, 0, none⟩ = some va := (World.cell?_of_block (a := ⟨eb, 0, none⟩) (hblk2 eb hlt hebn)).trans h.cell
  have hf2 : w2.frozen? ⟨eb, 0, none⟩ = false := (World.frozen?_of_block (a := ⟨eb, 0, none⟩) (hblk2 eb hlt hebn)).trans h.froz
  refine ⟨⟨hc2, hf2⟩, ?_⟩
  intro w3 S3
  have hsz3 : w3.heap.size = w2.heap.size := World.size_setCell _ _ _
  have hblk3 : ∀ b, b ≠ eb → w3.heap[b]? = w2.heap[b]? := fun b hbe => Below.heap_setCell w2 ⟨eb, 0, none⟩ _ b hbe
  have hblk : ∀ b, b < w.heap.size → b ≠ eb → some b ≠ va.ownBlock → w3.heap[b]? = w.heap[b]? := fun b h1 h2 h3 => (hblk3 b h2).trans (hblk2 b h1 h3)
  have hS : ∀ b, Sx eb w va vl b → S3 b := fun b hh => by
    refine ⟨hh.1, by have := hh.2.1; omega, ?_, by simp [Value.ownBlock]⟩
    simp only [Value.ownBlock]
    intro e
    have e : b = g := by simpa using e
    rcases hb with hb | hb
    · exact hh.2.2.1 (by rw [hb, e])
    · have := hh.2.1; omega
  have hw : ∀ b, Sx eb w va vl b → w3.heap[b]? = w.heap[b]? := fun b hh => hblk b hh.2.1 (by have := hh.1; omega) hh.2.2.1
  have hvlS : ∀ b, vl.ownBlock = some b → S3 b := fun b hv => by
    have h1 := hvl b hv
    refine ⟨h1.1, by omega, ?_, by simp [Value.ownBlock]⟩
    simp only [Value.ownBlock]
    intro e
    have e : b = g := by simpa using e
    rcases hb with hb | hb
    · rcases h.ne with e1 | e1
      · rw [hb] at e1; cases e1
      · exact e1 (by rw [hv, hb, e])
    · omega
  have hvlw : ∀ b, vl.ownBlock = some b → w3.heap[b]? = w.heap[b]? := fun b hv => by
    have h1 := hvl b hv
    refine hblk b h1.2 (by omega) ?_
    intro e
    rcases h.ne with e1 | e1
    · rw [e1] at e; cases e
    · exact e1 (by rw [← e, hv])
  have hrl3 : w3.ownsRow (eb + 1) 98 2 vl Q.length (cells s Q) := by
    refine ⟨h.rl.1, ?_⟩
    rcases h.rl.2 with hn | ⟨g', cap', cur, e1, hb', hgg, rest⟩
    · exact .inl hn
    · exact .inr ⟨g', cap', cur, e1, hb', (hvlw g' (by rw [e1]; rfl)).trans hgg, rest⟩
  refine ⟨by omega, World.cell?_setCell_same w2 _ _ hc2, by rw [World.frozen?_setCell]; exact hf2, hgeb, ?_, fun j y hy => ?_, ?_⟩
  · have hge : g ≠ eb := by omega
    refine ⟨by simp, .inr ?_⟩
    rcases hown.2 with ⟨e, _⟩ | ⟨g', cap', cur, e1, hb', hgg, rest⟩
    · cases e
    · injection e1 with e1 e2 e3
      simp only [Option.some.injEq, Addr.mk.injEq, and_true] at e1
      subst e1 e3
      exact ⟨g, cap, cur, rfl, hb', (hblk3 g hge).trans hgg, by simpa using rest⟩
  · by_cases hj : j < A.length
    · rw [List.getElem?_append_left hj] at hy
      obtain ⟨h1, h2⟩ := h.alts j y hy
      exact ⟨h1, h2.frame hw hS (fun p x hh => EA.frame hw hS m m p x (Nat.le_refl _) hh)⟩
    · rw [List.getElem?_append_right (by omega)] at hy
      have hj0 : j = A.length := by
        rcases Nat.lt_or_ge (j - A.length) 1 with h1 | h1
        · omega
        · rw [List.getElem?_eq_none (by simpa using h1)] at hy; cases hy
      subst hj0
      simp at hy
      subst hy
      refine ⟨h.cur, ?_⟩
      have hfe : (fe s a).1 = Q.map Prod.fst := by rw [h.fe1, fe_no hF]; simp
      simp only
      rw [hfe]
      exact AAt_of_row hrl3 hvlS (fun q hq => (h.subs q hq).frame hw hS (Nat.le_refl _))
  · refine ⟨hg.os, hg.tape, hg.output, by omega, fun b hb1 => ?_⟩
    exact hblk b (by omega) (by omega) (fun e => by have := hva b e.symm; omega)
end
end Go.Proofs.YtnfaiaoipeholaaGreat
