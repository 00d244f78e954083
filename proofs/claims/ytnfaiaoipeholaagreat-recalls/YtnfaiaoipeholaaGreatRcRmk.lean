/- The reference's maker: its small methods. -/
import Derived.Test.YtnfaiaoipeholaaGreatRLows
import Derived.Test.YtnfaiaoipeholaaGreatMakeMath
import Derived.Laws.BytesArg
import Derived.Test.YtnfaiaoipeholaaGreatRFac
import Derived.Test.YtnfaiaoipeholaaGreatRFits
import Derived.Test.YtnfaiaoipeholaaGreatRFit
namespace Go.Proofs.YtnfaiaoipeholaaGreat
open Go.RowKit

theorem strs_size (T : List Int) : (strOfNums T).size = T.length := strOfNums_size T
theorem strs_append (T l : List Int) : strOfNums T ++ strOfNums l = strOfNums (T ++ l) := by
  have h : (strOfNums T ++ strOfNums l).data = (strOfNums (T ++ l)).data := by rw [ByteArray.data_append]; simp [strOfNums]
  cases h1 : strOfNums T ++ strOfNums l with
  | mk d => cases h2 : strOfNums (T ++ l) with
    | mk d' => rw [h1, h2] at h; simp at h; rw [h]

/-- all blocks but one stand -/
def But (b : Nat) (w w' : World) : Prop := w.grownBy w' (some b)
theorem But.refl (b : Nat) (w : World) : But b w w := ⟨rfl, rfl, rfl, Nat.le_refl _, fun _ _ _ => rfl⟩
theorem But.trans {b : Nat} {w w1 w2 : World} (h : But b w w1) (k : But b w1 w2) : But b w w2 :=
  ⟨k.os.trans h.os, k.tape.trans h.tape, k.output.trans h.output, Nat.le_trans h.size k.size, fun j hj hne => (k.block j (Nat.lt_of_lt_of_le hj h.size) hne).trans (h.block j hj hne)⟩
theorem But.of {b : Nat} {w w1 : World} (h : Below w.heap.size w w1) : But b w w1 := ⟨h.os, h.tape, h.output, h.size, fun j hj _ => h.block j hj⟩
theorem But.set (b o : Nat) (w : World) (u : Value) : But b w (w.setCell ⟨b, o, none⟩ u) := by
  have hb : Below b w (w.setCell ⟨b, o, none⟩ u) := (Below.refl _ _).setCell (p := ⟨b, o, none⟩) (Nat.le_refl _) u
  exact ⟨hb.os, hb.tape, hb.output, hb.size, fun k _ hne => Below.heap_setCell w _ u k (fun e => hne (by rw [e]))⟩
theorem But.cell {b : Nat} {w w1 : World} (h : But b w w1) {g o : Nat} (hne : g ≠ b) (hlt : g < w.heap.size) : w1.cell? ⟨g, o, none⟩ = w.cell? ⟨g, o, none⟩ := World.cell?_of_block (a := ⟨g, o, none⟩) (h.block g hlt (fun e => hne (by injection e)))
theorem But.frozen {b : Nat} {w w1 : World} (h : But b w w1) {g o : Nat} (hne : g ≠ b) (hlt : g < w.heap.size) : w1.frozen? ⟨g, o, none⟩ = w.frozen? ⟨g, o, none⟩ := World.frozen?_of_block (a := ⟨g, o, none⟩) (h.block g hlt (fun e => hne (by injection e)))
theorem But.below {b B : Nat} {w w1 : World} (h : But b w w1) (hB : B ≤ b) (hlt : b ≤ w.heap.size) : Below B w w1 := ⟨h.os, h.tape, h.output, h.size, fun k hk => h.block k (by omega) (fun e => by injection e with e; omega)⟩
theorem But.alloc {b : Nat} {w w1 : World} (h : But b w w1) (o : Obj) : But b w (w1.alloc o) := h.trans (But.of ((Below.refl _ _).alloc (Nat.le_refl _) _))

/-- the reference's maker in memory -/
structure Rm (w : World) (b : Nat) (s c : ByteArray) (m : Int) (B g : Nat) (a : Nat) (T : List Int) : Prop where
  gr : Gr w s B g
  hB : B ≤ b
  lt : b < w.heap.size
  gp : w.cell? ⟨b, 0, none⟩ = some (.pointer (some ⟨g, 0, none⟩))
  nam : w.rangeAt b 1 (nms (lowsF s 27))
  mst : w.cell? ⟨b, 27, none⟩ = some (.int .i64 m)
  chs : w.cell? ⟨b, 28, none⟩ = some (.string c)
  tak : w.cell? ⟨b, 29, none⟩ = some (.int .i64 a)
  tkf : w.frozen? ⟨b, 29, none⟩ = false
  out : w.cell? ⟨b, 30, none⟩ = some (.string (strOfNums T))
  ouf : w.frozen? ⟨b, 30, none⟩ = false
section
variable {w : World} {b : Nat} {s c : ByteArray} {m : Int} {B g : Nat} {a : Nat} {T : List Int}
theorem Rm.below (h : Rm w b s c m B g a T) {w' : World} (hb : Below w.heap.size w w') : Rm w' b s c m B g a T := by
  have hc : ∀ o, w'.cell? ⟨b, o, none⟩ = w.cell? ⟨b, o, none⟩ := fun o => hb.cell (p := ⟨b, o, none⟩) h.lt
  have hf : ∀ o, w'.frozen? ⟨b, o, none⟩ = w.frozen? ⟨b, o, none⟩ := fun o => hb.frozen (p := ⟨b, o, none⟩) h.lt
  exact ⟨h.gr.below hb (Nat.le_trans h.hB (Nat.le_of_lt h.lt)), h.hB, Nat.lt_of_lt_of_le h.lt hb.size, (hc _).trans h.gp, range_below h.nam hb, (hc _).trans h.mst, (hc _).trans h.chs, (hc _).trans h.tak, (hf _).trans h.tkf, (hc _).trans h.out, (hf _).trans h.ouf⟩
theorem Rm.set (h : Rm w b s c m B g a T) {o : Nat} (ho : 29 ≤ o) (u : Value) :
    Gr (w.setCell ⟨b, o, none⟩ u) s B g ∧ (∀ j, j ≠ o → (w.setCell ⟨b, o, none⟩ u).cell? ⟨b, j, none⟩ = w.cell? ⟨b, j, none⟩) ∧ (w.setCell ⟨b, o, none⟩ u).rangeAt b 1 (nms (lowsF s 27)) ∧ (∀ j, (w.setCell ⟨b, o, none⟩ u).frozen? ⟨b, j, none⟩ = w.frozen? ⟨b, j, none⟩) ∧ b < (w.setCell ⟨b, o, none⟩ u).heap.size ∧ Below b w (w.setCell ⟨b, o, none⟩ u) := by
  have hb : Below b w (w.setCell ⟨b, o, none⟩ u) := (Below.refl _ _).setCell (p := ⟨b, o, none⟩) (Nat.le_refl _) u
  have hc : ∀ j, j ≠ o → (w.setCell ⟨b, o, none⟩ u).cell? ⟨b, j, none⟩ = w.cell? ⟨b, j, none⟩ := fun j hj => World.cell?_setCell_other w _ _ _ (fun e => hj (by injection e with _ e; exact e.symm))
  refine ⟨?_, hc, fun j v hv => ?_, fun j => World.frozen?_setCell _ _ _ _, by simpa using h.lt, hb⟩
  · have hlt := h.gr.lt
    have hBb := h.hB
    have gr := h.gr
    have hbel : Below B w (w.setCell ⟨b, o, none⟩ u) := hb.mono hBb
    refine ⟨gr.lt, (hbel.cell (p := ⟨g, 26, none⟩) hlt).trans gr.start, fun f hf => ?_, fun i hi hr => (hbel.cell (p := ⟨g, i, none⟩) hlt).trans (gr.nils i hi hr)⟩
    obtain ⟨p, n, j, h1, h2, h3, h4⟩ := gr.rules f hf
    exact ⟨p, n, j, h1, h2, (hbel.cell (p := ⟨g, (bt s f - 65).toNat, none⟩) hlt).trans h3, EA.frame (fun k hk => hbel.block k hk) (fun _ h => h) n n p _ (Nat.le_refl _) h4⟩
  · have hj : j < 26 := by have := (List.getElem?_eq_some_iff.1 hv).1; rw [nms_len] at this; exact this
    rw [hc (1 + j) (by omega)]; exact h.nam j v hv
theorem Rm.take (h : Rm w b s c m B g a T) (x : Nat) : Rm (w.setCell ⟨b, 29, none⟩ (.int .i64 x)) b s c m B g x T := by
  obtain ⟨h1, h2, h3, h4, h5, _⟩ := h.set (o := 29) (Nat.le_refl _) (.int .i64 x)
  exact ⟨h1, h.hB, h5, (h2 0 (by omega)).trans h.gp, h3, (h2 27 (by omega)).trans h.mst, (h2 28 (by omega)).trans h.chs, World.cell?_setCell_same w _ _ h.tak, (h4 29).trans h.tkf, (h2 30 (by omega)).trans h.out, (h4 30).trans h.ouf⟩
theorem Rm.puts (h : Rm w b s c m B g a T) (T' : List Int) : Rm (w.setCell ⟨b, 30, none⟩ (.string (strOfNums T'))) b s c m B g a T' := by
  obtain ⟨h1, h2, h3, h4, h5, _⟩ := h.set (o := 30) (by omega) (.string (strOfNums T'))
  exact ⟨h1, h.hB, h5, (h2 0 (by omega)).trans h.gp, h3, (h2 27 (by omega)).trans h.mst, (h2 28 (by omega)).trans h.chs, (h2 29 (by omega)).trans h.tak, (h4 29).trans h.tkf, World.cell?_setCell_same w _ _ h.out, (h4 30).trans h.ouf⟩
theorem Rm.drew (h : Rm w b s c m B g a T) : Rm w.drew b s c m B g a T := h.below ((Below.refl _ _).drew)

set_option maxHeartbeats 400000 in
theorem put_any (hm : Rm w b s c m B g a T) (hT : T.length ≤ 10000000) (l : List Int) (t : ByteArray) (ht : t = strOfNums l) (hl : l.length ≤ 10) : Calls Tryz.prog 112 #[.pointer (some ⟨b, 0, none⟩), .string t] w fun e w' => e = .returned (.tuple #[]) ∧ Rm w' b s c m B g a (T ++ l) ∧ But b w w' := by
  subst ht
  have h1 := hm.out
  have h2 := hm.ouf
  have hz1 := strs_size T
  have hz2 := strs_size l
  have HM := hide hm
  have HA := hide (strs_append T l)
  go_enter Tryz.func112, Tryz.ntmps112
  go_wp2
  go_end0
  rw [unhide HA]
  exact ⟨rfl, (unhide HM).puts _, But.set _ _ _ _⟩

/-- one byte as a text -/
theorem conv_one (w : World) (x : Int) : (convert 31 9 (.slice (some ⟨w.heap.size, 0, none⟩) 1 1)).run Tryz.prog (w.alloc (.cells #[.int .u8 x] 5)) = .ok (.string (strOfNums [x])) (w.alloc (.cells #[.int .u8 x] 5)) :=
  run_convert_bytes_arg _ 31 5 Tryz.underlying31 Tryz.underlying5 w.heap.size 0 1 1 [x] rfl (fun i hi => by
    have : i = 0 := by omega
    subst this
    rw [World.cell?_alloc_new]; rfl) _ Tryz.underlying9

theorem dgF_at (c : ByteArray) : ∀ n i, dgF c n i = true → ∀ j : Nat, i ≤ j → j < i + n → cD (bt c j) = true
  | 0, i, h, j, h1, h2 => by omega
  | n + 1, i, h, j, h1, h2 => by
    unfold dgF at h
    simp only [Bool.and_eq_true] at h
    by_cases e : j = i
    · subst e; exact h.1
    · exact dgF_at c n (i + 1) h.2 j (by omega) (by omega)
theorem digs_at {c : ByteArray} (h : digs c = true) {j : Nat} (hj : j < c.size) : cD (bt c j) = true := dgF_at c c.size 0 h j (by omega) (by omega)

set_option maxHeartbeats 400000 in
theorem way_any (hm : Rm w b s c m B g a T) (hd : digs c = true) (ha : a ≤ 10000000) (q : Int) (n : Nat) (hq : q = n) (hn : n ≤ 1000) : Calls Tryz.prog 114 #[.pointer (some ⟨b, 0, none⟩), .int .i64 q] w fun e w' => e = .returned (.int .i64 (wayN c a n)) ∧ Rm w' b s c m B g (wayA a n) T ∧ But b w w' := by
  subst hq
  have h1 := hm.chs
  have h2 := hm.tak
  have h3 := hm.tkf
  have HM := hide hm
  by_cases h : n < 2
  · have e1 : wayN c a n = 0 := by unfold wayN; rw [if_pos h]
    have e2 : wayA a n = a := by unfold wayA; rw [if_pos h]
    rw [e1, e2]
    clear e1 e2
    go_enter Tryz.func114, Tryz.ntmps114
    go_wp2
    go_ret; exact ⟨rfl, unhide HM, But.refl _ _⟩
  · have e2 : wayA a n = a + 1 := by unfold wayA; rw [if_neg h]
    rw [e2]
    have hne : (n : Int) ≠ 0 := by omega
    clear e2
    by_cases hl : a < c.size
    · have hb := bt_at c a hl
      have hcd := digs_at hd hl
      have hv : 48 ≤ bt c a ∧ bt c a ≤ 57 := by simpa [cD] using hcd
      obtain ⟨hv1, hv2⟩ := hv
      have e1 : (wayN c a n : Int) = (bt c a - 48) % n := by
        unfold wayN dig; rw [if_neg h, if_pos hcd]
        have : ((bt c a - 48).toNat : Int) = bt c a - 48 := by omega
        rw [← this]; simp
      rw [e1, hb]
      rw [hb] at hv1 hv2
      clear e1 hcd hb hd
      go_enter Tryz.func114, Tryz.ntmps114
      go_wp2
      go_quiet (fail)
      go_wp2
      go_quiet (fail)
      go_wp2
      go_ret
      exact ⟨rfl, ((unhide HM).below (below_drewN (Below.refl _ _) _)).take (a + 1), (But.of (below_drewN (Below.refl _ _) _)).trans (But.set _ _ _ _)⟩
    · have hb : bt c a = 0 := bt_out c a (by omega)
      have e1 : wayN c a n = 0 := by unfold wayN dig; rw [if_neg h, hb, if_neg (by decide)]; simp
      rw [e1]
      clear e1 hb hd
      go_enter Tryz.func114, Tryz.ntmps114
      go_wp2
      go_quiet (fail)
      go_wp2
      go_ret
      exact ⟨rfl, ((unhide HM).below (below_drewN (Below.refl _ _) _)).take (a + 1), (But.of (below_drewN (Below.refl _ _) _)).trans (But.set _ _ _ _)⟩
end
end Go.Proofs.YtnfaiaoipeholaaGreat
/- The reference's maker: factors. -/
namespace Go.Proofs.YtnfaiaoipeholaaGreat
open Go.RowKit

/-- what stands beside the reference's maker -/
structure Er (s c : ByteArray) (m : Nat) : Prop where
  gram : Gram s
  ten : Ten s
  dg : digs c = true
  hc : c.size ≤ 2000
  hm : 1 ≤ m ∧ m ≤ 5
/-- what a making leaves -/
def OutR (b : Nat) (s c : ByteArray) (m B g : Nat) (w : World) (T : List Int) (p : Nat × List Int) (X : Nat) (e : Ending) (w' : World) : Prop :=
  e = .returned (.tuple #[]) ∧ ∃ a' T', Rm w' b s c m B g a' T' ∧ But b w w' ∧ Ends T p a' T' ∧ a' ≤ T'.length ∧ T'.length ≤ X
/-- expressions, to this depth -/
def SaidR (b : Nat) (s c : ByteArray) (m B g : Nat) (n : Nat) : Prop :=
  ∀ (lq : Int) (p x k l a : Nat) (T : List Int) (w : World), Rm w b s c m B g a T → EA w s k (fun j => j < B) p x → lq = l → x ≤ s.size → (sts s x).length ≤ 10 → l ≤ 9 → expFit s (nFit s l) x = true → dep s l x < n → T.length ≤ 8000000 → a ≤ T.length →
    Calls Tryz.prog 113 #[.pointer (some ⟨b, 0, none⟩), .pointer (some ⟨p, 0, none⟩), .int .i64 lq] w fun e w' => OutR b s c m B g w T (genE s c m n l x a) (max T.length (2001 + 1000 * n)) e w'

section
variable {b : Nat} {s c : ByteArray} {m B g : Nat}

theorem nFit_pos' {l i : Nat} (h : nFit s l i = true) : 0 < l := by
  cases l with
  | zero => cases h
  | succ l => omega
/-- a name's expression -/
theorem name_place' (g : Gram s) (ten : Ten s) {f : Nat} (hf : cN (bt s f) = true) : ∃ j : Nat, rl s (bt s f) = (j : Int) ∧ j < s.size ∧ j + 2 ≤ s.size ∧ (sts s (j + 2)).length ≤ 10 ∧ (rl s (bt s f) + 2).toNat = j + 2 := by
  obtain ⟨j, h1, h2, h3, _⟩ := g.name f hf
  exact ⟨j, h1, h2, (g.rule j h2 h3).2.2.1, ten.rule j h2 h3, by omega⟩
theorem name_fit' {l f : Nat} (hf : cN (bt s f) = true) (h : nFit s l (bt s f - 65).toNat = true) : expFit s (nFit s (l - 1)) (rl s (bt s f) + 2).toNat = true := by
  have hv : 65 ≤ bt s f ∧ bt s f ≤ 90 := by simpa [cN] using hf
  cases l with
  | zero => cases h
  | succ l =>
    have e : ((65 + (bt s f - 65).toNat : Nat) : Int) = bt s f := by omega
    have h' : expFit s (nFit s l) (rl s (65 + (bt s f - 65).toNat : Nat) + 2).toNat = true := h
    rw [e] at h'; exact h'
/-- a cell and the array, wherever it begins -/
theorem keepO {wr w2 : World} {ga o nb no : Nat} {u : Value} {cs : List Value} (h : Below wr.heap.size wr w2) (e1 : wr.cell? ⟨ga, o, none⟩ = some u) (hr : wr.rangeAt nb no cs) :
    Below wr.heap.size wr w2 ∧ w2.cell? ⟨ga, o, none⟩ = some u ∧ w2.rangeAt nb no cs :=
  ⟨h, (h.cell (p := ⟨ga, o, none⟩) (World.block_lt_of_cell? wr _ e1)).trans e1, range_below hr h⟩
theorem EA.but {w w1 : World} {s : ByteArray} {b B n p x : Nat} (h : EA w s n (fun j => j < B) p x) (hb : But b w w1) (hB : B ≤ b) (hlt : b ≤ w.heap.size) : EA w1 s n (fun j => j < B) p x :=
  EA.frame (fun j hj => (hb.below hB hlt).block j hj) (fun _ h => h) n n p x (Nat.le_refl _) h
/-- the factor's own block, and one byte behind it -/
theorem fac_start (w : World) (x : Int) (sv : Value) (t u : TypeId) :
    Below w.heap.size w ((w.alloc (.cells #[.int .u8 x, sv] t)).alloc (.cells #[.int .u8 x] u)) ∧ ((w.alloc (.cells #[.int .u8 x, sv] t)).alloc (.cells #[.int .u8 x] u)).cell? ⟨w.heap.size, 0, none⟩ = some (.int .u8 x) ∧ ((w.alloc (.cells #[.int .u8 x, sv] t)).alloc (.cells #[.int .u8 x] u)).cell? ⟨w.heap.size, 1, none⟩ = some sv ∧
      ((w.alloc (.cells #[.int .u8 x, sv] t)).alloc (.cells #[.int .u8 x] u)).heap.size = w.heap.size + 2 := by
  refine ⟨((Below.refl _ _).alloc (Nat.le_refl _) _).alloc (by simp) _, ?_, ?_, by simp⟩
  · rw [World.cell?_alloc_old _ _ _ (by simp), World.cell?_alloc_new]; rfl
  · rw [World.cell?_alloc_old _ _ _ (by simp), World.cell?_alloc_new]; rfl

set_option maxHeartbeats 1000000 in
set_option maxRecDepth 1000000 in
theorem rfac_letter {n : Nat} (lq : Int) (f l a : Nat) (T : List Int) (w : World) (hk : Rm w b s c m B g a T) (h2 : cN (bt s f) = false) (h3 : cO (bt s f) = false) (hT : T.length ≤ 8000100) (ha : a ≤ T.length) :
    Calls Tryz.prog 64 #[.pointer (some ⟨b, 0, none⟩), .agg #[.int .u8 (bt s f), .pointer none], .int .i64 lq] w fun e w' => OutR b s c m B g w T (genF s c m (genE s c m n) l f a) (max T.length (2001 + 1000 * n) + 3) e w' := by
  have hR : genF s c m (genE s c m n) l f a = (a, [bt s f]) := by unfold genF; rw [if_neg (by simp [h2]), if_neg (by simp [h3])]
  rw [hR]
  have hblt := hk.lt
  have hcv := conv_one (w.alloc (.cells #[.int .u8 (bt s f), .pointer none] 98)) (bt s f)
  rw [World.size_alloc] at hcv
  obtain ⟨s1, s2, s3, s4⟩ := fac_start w (bt s f) (.pointer none) 98 5
  have HK := hide (hk.below s1)
  have HS1 := hide s1
  have h2' := hide h2
  clear h2 h3 hR hk s1
  go_enter Tryz.func64, Tryz.ntmps64
  go_wp2_with (first
    | (go_at_call 59; refine (name_any _ _).mono ?_; rw [unhide h2']; rintro e w' ⟨rfl, hw⟩; replace hw := hw.symm; subst hw)
    | fail)
  refine (put_any (unhide HK) (by omega) [bt s f] _ rfl (by simp)).mono ?_
  rintro e w1 ⟨rfl, hk1, hb1⟩
  have e0 := (hb1.cell (g := w.heap.size) (o := 0) (by omega) (by omega)).trans s2
  have e1 := (hb1.cell (g := w.heap.size) (o := 1) (by omega) (by omega)).trans s3
  have HK1 := hide hk1
  have HB1 := hide ((But.of (b := b) (unhide HS1)).trans hb1)
  clear hcv s2 s3 hk1 hb1
  go_wp2
  go_end0
  exact ⟨rfl, a, _, unhide HK1, unhide HB1, Ends.put T [bt s f] a, by simp; omega, by simp; omega⟩

set_option maxHeartbeats 1000000 in
set_option maxRecDepth 1000000 in
theorem rfac_name (v : Er s c m) {n : Nat} (hn : n ≤ 5000) (hE : SaidR b s c m B g n) (lq : Int) (f l a : Nat) (T : List Int) (w : World) (hk : Rm w b s c m B g a T) (hl : lq = l) (hl9 : l ≤ 9) (h2 : cN (bt s f) = true) (hfit : nFit s l (bt s f - 65).toNat = true)
    (hd : ∀ y, dep s (l - 1) y < n) (hT : T.length ≤ 7000000) (ha : a ≤ T.length) :
    Calls Tryz.prog 64 #[.pointer (some ⟨b, 0, none⟩), .agg #[.int .u8 (bt s f), .pointer none], .int .i64 lq] w fun e w' => OutR b s c m B g w T (genF s c m (genE s c m n) l f a) (max T.length (2001 + 1000 * n) + 3) e w' := by
  subst hl
  generalize hR : genF s c m (genE s c m n) l f a = R
  unfold genF genN at hR
  rw [if_pos h2] at hR
  have hpos := nFit_pos' hfit
  obtain ⟨j, j1, j2, j3, j4, j5⟩ := name_place' v.gram v.ten h2
  have H10 := hide j4
  have hex := name_fit' h2 hfit
  rw [j5] at hex hR
  have hv : 65 ≤ bt s f ∧ bt s f ≤ 90 := by simpa [cN] using h2
  obtain ⟨hv1, hv2⟩ := hv
  have hblt := hk.lt
  have hcv := conv_one (w.alloc (.cells #[.int .u8 (bt s f), .pointer none] 98)) (bt s f)
  rw [World.size_alloc] at hcv
  obtain ⟨s1, s2, s3, s4⟩ := fac_start w (bt s f) (.pointer none) 98 5
  have HK := hide (hk.below s1)
  have HS1 := hide s1
  have h2' := hide h2
  have HR := hide hR
  have HX := hide hex
  have HD := hide (hd (j + 2))
  clear hR hk s1 hex hd hfit h2 j5 j4
  go_enter Tryz.func64, Tryz.ntmps64
  go_wp2_with (first
    | (go_at_call 59; refine (name_any _ _).mono ?_; rw [unhide h2']; rintro e w' ⟨rfl, hw⟩; replace hw := hw.symm; subst hw)
    | fail)
  refine (put_any (unhide HK) (by omega) [bt s f] _ rfl (by simp)).mono ?_
  rintro e w1 ⟨rfl, hk1, hb1⟩
  have e0 := (hb1.cell (g := w.heap.size) (o := 0) (by omega) (by omega)).trans s2
  have HK1 := hide hk1
  have HB1 := hide ((But.of (b := b) (unhide HS1)).trans hb1)
  have hz1 := hb1.size
  clear hcv s2 s3 hk1 hb1
  go_wp2_with fail
  refine (put_any (unhide HK1) (by simp; omega) [40] _ rfl (by simp)).mono ?_
  rintro e w2 ⟨rfl, hk2, hb2⟩
  have e00 := (hb2.cell (g := w.heap.size) (o := 0) (by omega) (by omega)).trans e0
  have gp := hk2.gp
  obtain ⟨p, k, j', i1, i2, i3, i4⟩ := hk2.gr.rules f (unhide h2')
  have ejj : j' = j := by omega
  subst ejj
  have HK2 := hide hk2
  have HB2 := hide ((unhide HB1).trans hb2)
  have HEA := hide i4
  have hz3 := hb2.size
  clear e0 hk2 hb2 i1 i4 HB1 HK1
  have hgb : g ≠ b := by have := (unhide HK2).gr.lt; have := (unhide HK2).hB; omega
  have hgl : g < w2.heap.size := by have := (unhide HK2).gr.lt; have := (unhide HK2).hB; have := (unhide HK2).lt; omega
  have hz2 : w.heap.size < w2.heap.size := by omega
  have hBw : B ≤ w2.heap.size := by have := (unhide HK2).hB; have := (unhide HK2).lt; omega
  have hix : bt s f - 65 < 26 := by omega
  have hix0 : 0 ≤ bt s f - 65 := by omega
  have hwr : IntKind.u8.wrap (bt s f - 65) = bt s f - 65 := by simp [IntKind.wrap, IntKind.signed, IntKind.bits]; omega
  have hw2 : IntKind.i64.wrap ((l : Int) - 1) = (l : Int) - 1 := by simp [IntKind.wrap, IntKind.signed, IntKind.bits]; omega
  go_wp2_with fail
  go_region_held (fun w' => w'.cell? ⟨b, 0, none⟩ = some (.pointer (some ⟨g, 0, none⟩)) ∧ w'.cell? ⟨g, (bt s f - 65).toNat, none⟩ = some (.pointer (some ⟨p, 0, none⟩)) ∧ w'.cell? ⟨w.heap.size, 0, none⟩ = some (.int .u8 (bt s f))) (first | exact ⟨gp, i3, e00⟩ | exact ⟨hk3.gp, (hb3.cell (g := g) hgb hgl).trans i3, (hb3.cell (g := w.heap.size) (Nat.ne_of_gt hblt) hz2).trans e00⟩) (first | (go_at_call 113; refine (hE _ p (j' + 2) k (l - 1) a _ _ (unhide HK2).drew ((unhide HEA).below ((Below.refl _ _).drew) hBw) ?_ j3 (unhide H10) ?_ (unhide HX) (unhide HD) ?_ ?_).mono ?_; omega; omega; simp; omega; simp; omega; rintro e w3 ⟨rfl, a3, T3, hk3, hb3, he3, ha3, hT3⟩))
  have HK3 := hide hk3
  have HB3 := hide (((unhide HB2).trans (But.of ((Below.refl _ _).drew))).trans hb3)
  have HE3 := hide he3
  clear hk3 hb3 he3 gp i3 e00 hwr hw2
  simp only [List.length_append, List.length_cons, List.length_nil] at hT3
  go_wp2_with fail
  refine (put_any (unhide HK3) (by omega) [41] _ rfl (by simp)).mono ?_
  rintro e w4 ⟨rfl, hk4, hb4⟩
  have HK4 := hide hk4
  have HB4 := hide ((unhide HB3).trans hb4)
  clear hk4 hb4
  go_wp2
  go_end0
  refine ⟨rfl, a3, T3 ++ [41], unhide HK4, unhide HB4, ?_, by simp; omega, by simp; omega⟩
  have h1 := ((Ends.put T [bt s f] a).seq (q := fun a => (a, [40])) (Ends.put (T ++ [bt s f]) [40] a)).seq (q := genE s c m n (l - 1) (j' + 2)) (unhide HE3)
  refine h1.seq' (q := fun a => (a, [41])) (Ends.put T3 [41] a3) ?_
  rw [← unhide HR]; simp
end
end Go.Proofs.YtnfaiaoipeholaaGreat
