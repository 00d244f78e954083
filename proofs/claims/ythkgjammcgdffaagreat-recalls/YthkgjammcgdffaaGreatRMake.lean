/- The reference's maker: its small methods. -/
import Derived.Test.YthkgjammcgdffaaGreatRLows
import Derived.Test.YthkgjammcgdffaaGreatMakeMath
import Derived.Laws.BytesArg
import Derived.Test.YthkgjammcgdffaaGreatRFac
namespace Go.Proofs.YthkgjammcgdffaaGreat
open Go.RowKit

theorem strs_size (T : List Int) : (strOfNums T).size = T.length := strOfNums_size T
theorem strs_append (T l : List Int) : strOfNums T ++ strOfNums l = strOfNums (T ++ l) := by
  have h : (strOfNums T ++ strOfNums l).data = (strOfNums (T ++ l)).data := by rw [ByteArray.data_append]; simp [strOfNums]
  cases h1 : strOfNums T ++ strOfNums l with
  | mk d => cases h2 : strOfNums (T ++ l) with
    | mk d' => rw [h1, h2] at h; simp at h; rw [h]

/-- all blocks but one stand -/
def But (b : Nat) (w w' : World) : Prop := w.grownBy w' (some b)
theorem But.refl (b : Nat) (w : World) : But b w w := ⟨rfl, rfl, rfl, Nat.le_refl _, fun _ _ _ => rfl⟩
theorem But.trans {b : Nat} {w w1 w2 : World} (h : But b w w1) (k : But b w1 w2) : But b w w2 :=
  ⟨k.os.trans h.os, k.tape.trans h.tape, k.output.trans h.output, Nat.le_trans h.size k.size, fun j hj hne => (k.block j (Nat.lt_of_lt_of_le hj h.size) hne).trans (h.block j hj hne)⟩
theorem But.of {b : Nat} {w w1 : World} (h : Below w.heap.size w w1) : But b w w1 := ⟨h.os, h.tape, h.output, h.size, fun j hj _ => h.block j hj⟩
theorem But.set (b o : Nat) (w : World) (u : Value) : But b w (w.setCell ⟨b, o, none⟩ u) := by
  have hb : Below b w (w.setCell ⟨b, o, none⟩ u) := (Below.refl _ _).setCell (p := ⟨b, o, none⟩) (Nat.le_refl _) u
  exact ⟨hb.os, hb.tape, hb.output, hb.size, fun k _ hne => Below.heap_setCell w _ u k (fun e => hne (by rw [e]))⟩
theorem But.cell {b : Nat} {w w1 : World} (h : But b w w1) {g o : Nat} (hne : g ≠ b) (hlt : g < w.heap.size) : w1.cell? ⟨g, o, none⟩ = w.cell? ⟨g, o, none⟩ := World.cell?_of_block (a := ⟨g, o, none⟩) (h.block g hlt (fun e => hne (by injection e)))
theorem But.frozen {b : Nat} {w w1 : World} (h : But b w w1) {g o : Nat} (hne : g ≠ b) (hlt : g < w.heap.size) : w1.frozen? ⟨g, o, none⟩ = w.frozen? ⟨g, o, none⟩ := World.frozen?_of_block (a := ⟨g, o, none⟩) (h.block g hlt (fun e => hne (by injection e)))
theorem But.below {b B : Nat} {w w1 : World} (h : But b w w1) (hB : B ≤ b) (hlt : b ≤ w.heap.size) : Below B w w1 := ⟨h.os, h.tape, h.output, h.size, fun k hk => h.block k (by omega) (fun e => by injection e with e; omega)⟩
theorem But.alloc {b : Nat} {w w1 : World} (h : But b w w1) (o : Obj) : But b w (w1.alloc o) := h.trans (But.of ((Below.refl _ _).alloc (Nat.le_refl _) _))

/-- the reference's maker in memory -/
structure Rm (w : World) (b : Nat) (s c : ByteArray) (m : Int) (B g : Nat) (a : Nat) (T : List Int) : Prop where
  gr : Gr w s B g
  hB : B ≤ b
  lt : b < w.heap.size
  gp : w.cell? ⟨b, 0, none⟩ = some (.pointer (some ⟨g, 0, none⟩))
  nam : w.rangeAt b 1 (nms (lowsF s 27))
  mst : w.cell? ⟨b, 27, none⟩ = some (.int .i64 m)
  chs : w.cell? ⟨b, 28, none⟩ = some (.string c)
  tak : w.cell? ⟨b, 29, none⟩ = some (.int .i64 a)
  tkf : w.frozen? ⟨b, 29, none⟩ = false
  out : w.cell? ⟨b, 30, none⟩ = some (.string (strOfNums T))
  ouf : w.frozen? ⟨b, 30, none⟩ = false
section
variable {w : World} {b : Nat} {s c : ByteArray} {m : Int} {B g : Nat} {a : Nat} {T : List Int}
theorem Rm.below (h : Rm w b s c m B g a T) {w' : World} (hb : Below w.heap.size w w') : Rm w' b s c m B g a T := by
  have hc : ∀ o, w'.cell? ⟨b, o, none⟩ = w.cell? ⟨b, o, none⟩ := fun o => hb.cell (p := ⟨b, o, none⟩) h.lt
  have hf : ∀ o, w'.frozen? ⟨b, o, none⟩ = w.frozen? ⟨b, o, none⟩ := fun o => hb.frozen (p := ⟨b, o, none⟩) h.lt
  exact ⟨h.gr.below hb (Nat.le_trans h.hB (Nat.le_of_lt h.lt)), h.hB, Nat.lt_of_lt_of_le h.lt hb.size, (hc _).trans h.gp, range_below h.nam hb, (hc _).trans h.mst, (hc _).trans h.chs, (hc _).trans h.tak, (hf _).trans h.tkf, (hc _).trans h.out, (hf _).trans h.ouf⟩
theorem Rm.set (h : Rm w b s c m B g a T) {o : Nat} (ho : 29 ≤ o) (u : Value) :
    Gr (w.setCell ⟨b, o, none⟩ u) s B g ∧ (∀ j, j ≠ o → (w.setCell ⟨b, o, none⟩ u).cell? ⟨b, j, none⟩ = w.cell? ⟨b, j, none⟩) ∧ (w.setCell ⟨b, o, none⟩ u).rangeAt b 1 (nms (lowsF s 27)) ∧ (∀ j, (w.setCell ⟨b, o, none⟩ u).frozen? ⟨b, j, none⟩ = w.frozen? ⟨b, j, none⟩) ∧ b < (w.setCell ⟨b, o, none⟩ u).heap.size ∧ Below b w (w.setCell ⟨b, o, none⟩ u) := by
  have hb : Below b w (w.setCell ⟨b, o, none⟩ u) := (Below.refl _ _).setCell (p := ⟨b, o, none⟩) (Nat.le_refl _) u
  have hc : ∀ j, j ≠ o → (w.setCell ⟨b, o, none⟩ u).cell? ⟨b, j, none⟩ = w.cell? ⟨b, j, none⟩ := fun j hj => World.cell?_setCell_other w _ _ _ (fun e => hj (by injection e with _ e; exact e.symm))
  refine ⟨?_, hc, fun j v hv => ?_, fun j => World.frozen?_setCell _ _ _ _, by simpa using h.lt, hb⟩
  · have hlt := h.gr.lt
    have hBb := h.hB
    have gr := h.gr
    have hbel : Below B w (w.setCell ⟨b, o, none⟩ u) := hb.mono hBb
    refine ⟨gr.lt, (hbel.cell (p := ⟨g, 26, none⟩) hlt).trans gr.start, fun f hf => ?_, fun i hi hr => (hbel.cell (p := ⟨g, i, none⟩) hlt).trans (gr.nils i hi hr)⟩
    obtain ⟨p, n, j, h1, h2, h3, h4⟩ := gr.rules f hf
    exact ⟨p, n, j, h1, h2, (hbel.cell (p := ⟨g, (bt s f - 65).toNat, none⟩) hlt).trans h3, EA.frame (fun k hk => hbel.block k hk) (fun _ h => h) n n p _ (Nat.le_refl _) h4⟩
  · have hj : j < 26 := by have := (List.getElem?_eq_some_iff.1 hv).1; rw [nms_len] at this; exact this
    rw [hc (1 + j) (by omega)]; exact h.nam j v hv
theorem Rm.take (h : Rm w b s c m B g a T) (x : Nat) : Rm (w.setCell ⟨b, 29, none⟩ (.int .i64 x)) b s c m B g x T := by
  obtain ⟨h1, h2, h3, h4, h5, _⟩ := h.set (o := 29) (Nat.le_refl _) (.int .i64 x)
  exact ⟨h1, h.hB, h5, (h2 0 (by omega)).trans h.gp, h3, (h2 27 (by omega)).trans h.mst, (h2 28 (by omega)).trans h.chs, World.cell?_setCell_same w _ _ h.tak, (h4 29).trans h.tkf, (h2 30 (by omega)).trans h.out, (h4 30).trans h.ouf⟩
theorem Rm.puts (h : Rm w b s c m B g a T) (T' : List Int) : Rm (w.setCell ⟨b, 30, none⟩ (.string (strOfNums T'))) b s c m B g a T' := by
  obtain ⟨h1, h2, h3, h4, h5, _⟩ := h.set (o := 30) (by omega) (.string (strOfNums T'))
  exact ⟨h1, h.hB, h5, (h2 0 (by omega)).trans h.gp, h3, (h2 27 (by omega)).trans h.mst, (h2 28 (by omega)).trans h.chs, (h2 29 (by omega)).trans h.tak, (h4 29).trans h.tkf, World.cell?_setCell_same w _ _ h.out, (h4 30).trans h.ouf⟩
theorem Rm.drew (h : Rm w b s c m B g a T) : Rm w.drew b s c m B g a T := h.below ((Below.refl _ _).drew)

set_option maxHeartbeats 400000 in
theorem put_any (hm : Rm w b s c m B g a T) (hT : T.length ≤ 10000000) (l : List Int) (t : ByteArray) (ht : t = strOfNums l) (hl : l.length ≤ 10) : Calls Tryz.prog 106 #[.pointer (some ⟨b, 0, none⟩), .string t] w fun e w' => e = .returned (.tuple #[]) ∧ Rm w' b s c m B g a (T ++ l) ∧ But b w w' := by
  subst ht
  have h1 := hm.out
  have h2 := hm.ouf
  have hz1 := strs_size T
  have hz2 := strs_size l
  have HM := hide hm
  have HA := hide (strs_append T l)
  go_enter Tryz.func106, Tryz.ntmps106
  go_wp2
  go_end0
  rw [unhide HA]
  exact ⟨rfl, (unhide HM).puts _, But.set _ _ _ _⟩

/-- one byte as a text -/
theorem conv_one (w : World) (x : Int) : (convert 31 9 (.slice (some ⟨w.heap.size, 0, none⟩) 1 1)).run Tryz.prog (w.alloc (.cells #[.int .u8 x] 5)) = .ok (.string (strOfNums [x])) (w.alloc (.cells #[.int .u8 x] 5)) :=
  run_convert_bytes_arg _ 31 5 Tryz.underlying31 Tryz.underlying5 w.heap.size 0 1 1 [x] rfl (fun i hi => by
    have : i = 0 := by omega
    subst this
    rw [World.cell?_alloc_new]; rfl) _ Tryz.underlying9

theorem dgF_at (c : ByteArray) : ∀ n i, dgF c n i = true → ∀ j : Nat, i ≤ j → j < i + n → cD (bt c j) = true
  | 0, i, h, j, h1, h2 => by omega
  | n + 1, i, h, j, h1, h2 => by
    unfold dgF at h
    simp only [Bool.and_eq_true] at h
    by_cases e : j = i
    · subst e; exact h.1
    · exact dgF_at c n (i + 1) h.2 j (by omega) (by omega)
theorem digs_at {c : ByteArray} (h : digs c = true) {j : Nat} (hj : j < c.size) : cD (bt c j) = true := dgF_at c c.size 0 h j (by omega) (by omega)

set_option maxHeartbeats 400000 in
theorem way_any (hm : Rm w b s c m B g a T) (hd : digs c = true) (ha : a ≤ 10000000) (q : Int) (n : Nat) (hq : q = n) (hn : n ≤ 1000) : Calls Tryz.prog 108 #[.pointer (some ⟨b, 0, none⟩), .int .i64 q] w fun e w' => e = .returned (.int .i64 (wayN c a n)) ∧ Rm w' b s c m B g (wayA a n) T ∧ But b w w' := by
  subst hq
  have h1 := hm.chs
  have h2 := hm.tak
  have h3 := hm.tkf
  have HM := hide hm
  by_cases h : n < 2
  · have e1 : wayN c a n = 0 := by unfold wayN; rw [if_pos h]
    have e2 : wayA a n = a := by unfold wayA; rw [if_pos h]
    rw [e1, e2]
    clear e1 e2
    go_enter Tryz.func108, Tryz.ntmps108
    go_wp2
    go_ret; exact ⟨rfl, unhide HM, But.refl _ _⟩
  · have e2 : wayA a n = a + 1 := by unfold wayA; rw [if_neg h]
    rw [e2]
    have hne : (n : Int) ≠ 0 := by omega
    clear e2
    by_cases hl : a < c.size
    · have hb := bt_at c a hl
      have hcd := digs_at hd hl
      have hv : 48 ≤ bt c a ∧ bt c a ≤ 57 := by simpa [cD] using hcd
      obtain ⟨hv1, hv2⟩ := hv
      have e1 : (wayN c a n : Int) = (bt c a - 48) % n := by
        unfold wayN dig; rw [if_neg h, if_pos hcd]
        have : ((bt c a - 48).toNat : Int) = bt c a - 48 := by omega
        rw [← this]; simp
      rw [e1, hb]
      rw [hb] at hv1 hv2
      clear e1 hcd hb hd
      go_enter Tryz.func108, Tryz.ntmps108
      go_wp2
      go_quiet (fail)
      go_wp2
      go_quiet (fail)
      go_wp2
      go_ret
      exact ⟨rfl, ((unhide HM).below (below_drewN (Below.refl _ _) _)).take (a + 1), (But.of (below_drewN (Below.refl _ _) _)).trans (But.set _ _ _ _)⟩
    · have hb : bt c a = 0 := bt_out c a (by omega)
      have e1 : wayN c a n = 0 := by unfold wayN dig; rw [if_neg h, hb, if_neg (by decide)]; simp
      rw [e1]
      clear e1 hb hd
      go_enter Tryz.func108, Tryz.ntmps108
      go_wp2
      go_quiet (fail)
      go_wp2
      go_ret
      exact ⟨rfl, ((unhide HM).below (below_drewN (Below.refl _ _) _)).take (a + 1), (But.of (below_drewN (Below.refl _ _) _)).trans (But.set _ _ _ _)⟩
end
end Go.Proofs.YthkgjammcgdffaaGreat
