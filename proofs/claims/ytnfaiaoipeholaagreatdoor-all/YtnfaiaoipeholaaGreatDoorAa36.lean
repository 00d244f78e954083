/- RowB PWalk3 PReduce -/
import Derived.Test.YtnfaiaoipeholaaGreatDoorAa34
import Derived.Deep.Upon
import Derived.Test.YtnfaiaoipeholaaGreatDoorAa35
namespace Go.Proofs.YtnfaiaoipeholaaGreatDoor
open Go.RowKit
/-- a slice of bytes of the call's own, in another block than b -/
def RowB (w : World) (B b : Nat) (v : Value) (L : List Int) : Prop :=
  ∃ g cap, v = .slice (some ⟨g, 0, none⟩) L.length cap ∧ B ≤ g ∧ g ≠ b ∧ g < w.heap.size ∧ L.length ≤ cap ∧ cap ≤ maxLen ∧ (∀ j, j < L.length → w.cell? ⟨g, j, none⟩ = (ubs L)[j]?) ∧ ∀ j, j < cap → (w.cell? ⟨g, j, none⟩).isSome = true ∧ w.frozen? ⟨g, j, none⟩ = false
section
variable {w : World} {B b : Nat} {v : Value} {L : List Int}
theorem ubs_app (A C : List Int) : ubs (A ++ C) = ubs A ++ ubs C := by simp [ubs]
theorem ubs_len (L : List Int) : (ubs L).length = L.length := by simp [ubs]
theorem RowB.same {w' : World} (h : RowB w B b v L) (hz : w.heap.size ≤ w'.heap.size) (hb : ∀ k, k < w.heap.size → k ≠ b → w'.heap[k]? = w.heap[k]?) : RowB w' B b v L := by
  obtain ⟨g, cap, h1, h2, h3, h4, h5, h6, h7, h8⟩ := h
  have e := hb g h4 h3
  exact ⟨g, cap, h1, h2, h3, by omega, h5, h6, fun j hj => (World.cell?_of_block (a := ⟨g, j, none⟩) e).trans (h7 j hj), fun j hj => by rw [World.cell?_of_block (a := ⟨g, j, none⟩) e, World.frozen?_of_block (a := ⟨g, j, none⟩) e]; exact h8 j hj⟩
theorem RowB.shape (h : RowB w B b v L) : ∃ g cap, v = .slice (some ⟨g, 0, none⟩) L.length cap := by
  obtain ⟨g, cap, h1, _⟩ := h
  exact ⟨g, cap, h1⟩
theorem heap_setCells (g : Nat) : ∀ (vs : List Value) (o : Nat) (w : World), (w.setCells g o vs).heap.size = w.heap.size
  | [], _, _ => rfl
  | v :: r, o, w => by rw [World.setCells, heap_setCells g r]; simp
/-- more bytes behind it -/
theorem RowB.more (h : RowB w B b v L) (hB : B ≤ w.heap.size) (hbw : b < w.heap.size) {tx ty : TypeId} {x : Value} {N : List Int} (hs : Src Tryz.prog 1 tx x N.length (ubs N) w) (hm : L.length + N.length ≤ 140737488355328) :
    ∃ v' w', (Builtin.append_ #[83, tx] ty #[v, x]).run Tryz.prog w = .ok v' w' ∧ RowB w' B b v' (L ++ N) ∧ Below B w w' ∧ w'.heap[b]? = w.heap[b]? := by
  obtain ⟨g, cap, rfl, h2, h3, h4, h5, h6, h7, h8⟩ := h
  obtain ⟨i1, hi1, hy0, hy1, hy2⟩ := info_parts Tryz.infoByte
  have hs1 : Src Tryz.prog i1.size tx x N.length (ubs N) w := by rw [hy1]; exact hs
  by_cases hr : L.length + N.length ≤ cap
  · have run := run_append_room_src (P := Tryz.prog) w 83 tx ty 5 i1 Tryz.underlying83 hi1 g 0 L.length cap x N.length (ubs N) hs1 hr
      (fun j hj => by rw [hy1, Nat.mul_one, Nat.zero_add]; exact (h8 _ (by rw [ubs_len] at hj; omega)).1)
      (fun j hj => by rw [hy1, Nat.mul_one, Nat.zero_add]; exact (h8 _ (by rw [ubs_len] at hj; omega)).2)
    rw [hy1, Nat.mul_one, Nat.zero_add] at run
    have hout : ∀ j, (j < L.length ∨ L.length + N.length ≤ j) → (w.setCells g L.length (ubs N)).cell? ⟨g, j, none⟩ = w.cell? ⟨g, j, none⟩ := fun j hj => World.cell?_setCells_out g (ubs N) L.length w ⟨g, j, none⟩ (fun _ _ => by rw [ubs_len]; exact hj)
    have hin : ∀ j (hj : j < (ubs N).length), (w.setCells g L.length (ubs N)).cell? ⟨g, L.length + j, none⟩ = some (ubs N)[j] := World.cell?_setCells_in g (ubs N) L.length w (fun j hj => (h8 _ (by rw [ubs_len] at hj; omega)).1)
    refine ⟨_, _, run, ⟨g, cap, by rw [List.length_append], h2, h3, by rw [heap_setCells]; exact h4, by rw [List.length_append]; exact hr, h6, fun j hj => ?_, fun j hj => ⟨?_, ?_⟩⟩, below_setRow g h2 (ubs N) L.length (Below.refl B w), World.heap_setCells_other w g L.length (ubs N) hbw (fun e => h3 e.symm)⟩
    · rw [List.length_append] at hj
      rw [ubs_app]
      by_cases hl : j < L.length
      · rw [hout j (.inl hl), h7 j hl, List.getElem?_append_left (by rw [ubs_len]; exact hl)]
      · have hn : j - L.length < (ubs N).length := by rw [ubs_len]; omega
        have hh := hin (j - L.length) hn
        rw [show L.length + (j - L.length) = j by omega] at hh
        rw [hh, List.getElem?_append_right (by rw [ubs_len]; omega), ubs_len, List.getElem?_eq_getElem hn]
    · by_cases hl : j < L.length ∨ L.length + N.length ≤ j
      · rw [hout j hl]; exact (h8 j hj).1
      · have hn : j - L.length < (ubs N).length := by rw [ubs_len]; omega
        have hh := hin (j - L.length) hn
        rw [show L.length + (j - L.length) = j by omega] at hh
        rw [hh]; rfl
    · rw [World.frozen?_setCells]; exact (h8 j hj).2
  · have hold : (Builtin.firstCells i1.size L.length (.slice (some ⟨g, 0, none⟩) L.length cap)).run Tryz.prog w.drew = .ok (ubs L).toArray w.drew := by
      rw [hy1]
      refine run_firstCells_some w.drew 1 L.length ⟨g, 0, none⟩ L.length cap (ubs L) (by rw [ubs_len, Nat.mul_one]) (fun j u hu => ?_)
      rw [Addr.add_lit, Nat.zero_add]
      have hj : j < L.length := by
        have := (List.getElem?_eq_some_iff.1 hu).1
        rwa [ubs_len] at this
      exact (h7 j hj).trans hu
    have run := run_append_grow_src (P := Tryz.prog) w 83 tx ty 5 i1 (.int .u8 0) Tryz.underlying83 hi1 hy0 (some ⟨g, 0, none⟩) L.length cap (ubs L) hold x N.length (ubs N) hs1 (by omega) (by omega) (growslice_fits (by omega) (by rw [hy2]; omega))
    have hge := grownCap_ge w (L.length + N.length) cap 5
    have hle := grownCap_le_maxLen w (L.length + N.length) cap 5 (by unfold maxLen; omega)
    generalize hG : grownCap w (L.length + N.length) cap 5 = G at *
    have hcz : ((ubs L ++ ubs N).toArray ++ Builtin.zeroCells (Value.int IntKind.u8 0).cells (G - (L.length + N.length))).size = G := by
      have hz1 : (Value.int IntKind.u8 0).cells.size = 1 := rfl
      rw [Array.size_append, size_zeroCells, hz1, List.size_toArray, List.length_append, ubs_len, ubs_len]
      omega
    refine ⟨_, _, run, ⟨w.heap.size, G, by rw [List.length_append], hB, by omega, by simp, by rw [List.length_append]; exact hge, hle, fun j hj => ?_, fun j hj => ⟨?_, ?_⟩⟩, (Below.refl B w).drew.alloc hB _, ?_⟩
    · rw [List.length_append] at hj
      have hc := World.cell?_alloc_new w.drew ((ubs L ++ ubs N).toArray ++ Builtin.zeroCells (Value.int IntKind.u8 0).cells (G - (L.length + N.length))) 5 j
      rw [show w.drew.heap.size = w.heap.size from rfl] at hc
      rw [hc, ubs_app, Array.getElem?_append_left (by rw [List.size_toArray, List.length_append, ubs_len, ubs_len]; exact hj)]
      simp
    · have hc := World.cell?_alloc_new w.drew ((ubs L ++ ubs N).toArray ++ Builtin.zeroCells (Value.int IntKind.u8 0).cells (G - (L.length + N.length))) 5 j
      rw [show w.drew.heap.size = w.heap.size from rfl] at hc
      rw [hc, Array.getElem?_eq_getElem (by rw [hcz]; exact hj)]; rfl
    · exact World.frozen?_alloc_new w.drew _ _ j
    · exact ((Below.refl w.heap.size w).drew.alloc (Nat.le_refl _) _).block b hbw
/-- a block is as it was -/
def SameAt (w w' : World) (b : Nat) : Prop := w'.heap[b]? = w.heap[b]?
/-- for the walk -/
theorem wpList_more {ops : Array Oper} {rest : List Oper} {o : Oper} {a : Act} {Q : Exit → Act → World → Prop} (hgd : o.guard = none) (sl x : Operand) (tx : TypeId)
    (ho : o.op = .call { callee := .builtin .append, args := #[sl, x], argTypes := #[83, tx] }) (hs : a.eval sl = v) (h : RowB w B b v L) (hB : B ≤ w.heap.size) (hbw : b < w.heap.size)
    (xv : Value) (N : List Int) (hx : a.eval x = xv) (hsrc : Src Tryz.prog 1 tx xv N.length (ubs N) w) (hm : L.length + N.length ≤ 140737488355328)
    (hK : ∀ v' w', RowB w' B b v' (L ++ N) → Below B w w' → SameAt w w' b → wpList Tryz.prog ops Q rest (a.put o.dst v') w') : wpList Tryz.prog ops Q (o :: rest) a w := by
  refine wpList_plain hgd fun K hk => ?_
  obtain ⟨v', w', hr, h2, h3, h4⟩ := h.more hB hbw (ty := o.type) hsrc hm
  unfold Oper.wp execOp
  simp only [ho, resolve, invoke, builtin, Sem.run_bind, Sem.run_pure, Result.andThen_ok, List.map_toArray, List.map_cons, List.map_nil, hs, hx, hr]
  exact hk _ _ (hK v' w' h2 h3 h4)
end
end Go.Proofs.YtnfaiaoipeholaaGreatDoor

namespace Go.Proofs.YtnfaiaoipeholaaGreatDoor
open Go.RowKit
/-- the cells of a walk -/
def wkC (c : ByteArray) (bud a : Nat) (v : Value) (t : ByteArray) (p : Nat) : Nat → Value
  | 0 => .string c
  | 1 => .int .i64 (bud : Int)
  | 2 => .int .i64 (a : Int)
  | 3 => v
  | 4 => .string t
  | _ => .int .i64 (p : Int)
/-- a walk in memory -/
structure Wk (w : World) (B b : Nat) (c : ByteArray) (bud a : Nat) (L : List Int) (t : ByteArray) (p : Nat) (v : Value) : Prop where
  row : w.rowIs b 104 6 (wkC c bud a v t p)
  own : RowB w B b v L
  low : B ≤ b
theorem gb_below {w w' : World} (b : Nat) (hb : Below w.heap.size w w') : w.grownBy w' (some b) := ⟨hb.os, hb.tape, hb.output, hb.size, fun k hk _ => hb.block k hk⟩
theorem gb_set (w : World) (b o : Nat) (u : Value) : w.grownBy (w.setCell ⟨b, o, none⟩ u) (some b) := by
  have hb : Below b w (w.setCell ⟨b, o, none⟩ u) := (Below.refl _ _).setCell (p := ⟨b, o, none⟩) (Nat.le_refl _) u
  exact ⟨hb.os, hb.tape, hb.output, hb.size, fun k hk hne => Below.heap_setCell w _ u k (fun e => hne (by rw [e]))⟩
theorem gb_to {w w' : World} {b B : Nat} (h : w.grownBy w' (some b)) (hB : B ≤ b) (hw : b < w.heap.size) : Below B w w' := by
  have := (Below.refl B w).grown h (by omega) (fun j hj => by injection hj with hj; omega)
  exact this
section
variable {w : World} {B b : Nat} {c : ByteArray} {bud a : Nat} {L : List Int} {t : ByteArray} {p : Nat} {v : Value}
theorem Wk.kept {w' : World} (h : Wk w B b c bud a L t p v) (hb : Below w.heap.size w w') : Wk w' B b c bud a L t p v :=
  ⟨h.row.of_block (hb.block b h.row.lt), h.own.same hb.size (fun k hk _ => hb.block k hk), h.low⟩
theorem Wk.set (h : Wk w B b c bud a L t p v) {o : Nat} {u : Value} {a' p' : Nat} {t' : ByteArray} (he : ∀ i, i < 6 → (if i = o then u else wkC c bud a v t p i) = wkC c bud a' v t' p' i) : Wk (w.setCell ⟨b, o, none⟩ u) B b c bud a' L t' p' v :=
  ⟨(h.row.set o u).congr he, h.own.same (gb_set w b o u).size (fun k hk hne => (gb_set w b o u).block k hk (fun e => hne (by injection e))), h.low⟩
theorem Wk.asks (h : Wk w B b c bud a L t p v) : Wk (w.setCell ⟨b, 2, none⟩ (.int .i64 ((a : Int) + 1))) B b c bud (a + 1) L t p v :=
  h.set (fun i hi => by
    match i, hi with
    | 0, _ => rfl
    | 1, _ => rfl
    | 2, _ => simp [wkC]
    | 3, _ => rfl
    | 4, _ => rfl
    | 5, _ => rfl)
theorem Wk.trees (h : Wk w B b c bud a L t p v) (u : ByteArray) : Wk (w.setCell ⟨b, 4, none⟩ (.string u)) B b c bud a L u p v :=
  h.set (fun i hi => by
    match i, hi with
    | 0, _ => rfl
    | 1, _ => rfl
    | 2, _ => rfl
    | 3, _ => rfl
    | 4, _ => rfl
    | 5, _ => rfl)
theorem Wk.place (h : Wk w B b c bud a L t p v) (q : Nat) : Wk (w.setCell ⟨b, 5, none⟩ (.int .i64 (q : Int))) B b c bud a L t q v :=
  h.set (fun i hi => by
    match i, hi with
    | 0, _ => rfl
    | 1, _ => rfl
    | 2, _ => rfl
    | 3, _ => rfl
    | 4, _ => rfl
    | 5, _ => rfl)
set_option maxHeartbeats 400000 in
theorem ask_any (hm : Wk w B b c bud a L t p v) (hc : c.size ≤ 300) (u : ByteArray) (hu : u.size ≤ 2000) (ha : a ≤ 10000) : Calls Tryz.prog 120 #[.pointer (some ⟨b, 0, none⟩), .string u] w fun e w' => e = .returned (.bool (hld c (wd u))) ∧ Wk w' B b c bud (a + 1) L t p v ∧ w.grownBy w' (some b) := by
  have h2 : w.cell? ⟨b, 2, none⟩ = some (.int .i64 (a : Int)) := hm.row.cell (by omega)
  have f2 := hm.row.frozen 2
  have HK := hide hm.asks
  have HG := hide (gb_set w b 2 (.int .i64 ((a : Int) + 1)))
  have hwz := wd_size u
  clear hm
  go_enter Tryz.func120, Tryz.ntmps120
  go_wp2_with fail
  generalize hw1 : w.setCell ⟨b, 2, none⟩ (.int .i64 ((a : Int) + 1)) = w1 at *
  clear hw1 h2 f2
  refine (treeWord_any u _ (by omega)).mono ?_
  rintro e w2 ⟨rfl, hb2⟩
  have HK2 := hide ((unhide HK).kept hb2)
  have HG2 := hide ((unhide HG).trans (gb_below b hb2))
  have c0 : w2.cell? ⟨b, 0, none⟩ = some (.string c) := (unhide HK2).row.cell (i := 0) (by omega)
  clear HK HG hb2
  go_wp2_with (first | (go_at_call 64; refine (holds_any _ _ _ hc (by omega)).mono ?_; rintro e w' ⟨rfl, hw⟩; replace hw := hw.symm; subst hw))
  go_ret
  exact ⟨rfl, unhide HK2, unhide HG2⟩
theorem bytc_ubs (s : ByteArray) : byteCells s = ubs (seg s 0 s.size) := by
  apply List.ext_getElem
  · rw [byteCells_length]; unfold ubs; rw [List.length_map, seg_size]
  · intro i h1 h2
    have hi : i < s.size := by rw [byteCells_length] at h1; exact h1
    simp only [byteCells, ubs, List.getElem_map]
    have e : (seg s 0 s.size)[i]'(by rw [seg_size]; exact hi) = bt s (0 + i : Nat) := seg_get s _ 0 i _
    rw [e, Nat.zero_add, bt_at s i hi]
    rfl
theorem src_str (w : World) (s : ByteArray) : Src Tryz.prog 1 9 (.string s) (seg s 0 s.size).length (ubs (seg s 0 s.size)) w := by
  rw [seg_size, ← bytc_ubs]
  exact Src.ofString w Tryz.underlying9 s
theorem Wk.ways {w' : World} {v' : Value} {L' : List Int} (h : Wk w B b c bud a L t p v) (hr : w'.rowIs b 104 6 (wkC c bud a v t p)) (ho : RowB w' B b v' L') : Wk (w'.setCell ⟨b, 3, none⟩ v') B b c bud a L' t p v' :=
  ⟨(hr.set 3 v').congr (fun i hi => by
    match i, hi with
    | 0, _ => rfl
    | 1, _ => rfl
    | 2, _ => rfl
    | 3, _ => rfl
    | 4, _ => rfl
    | 5, _ => rfl), ho.same (gb_set w' b 3 v').size (fun k hk hne => (gb_set w' b 3 v').block k hk (fun e => hne (by injection e))), h.low⟩

set_option maxHeartbeats 1000000 in
set_option maxRecDepth 1000000 in
theorem take_any (hm : Wk w B b c bud a L t p v) (hL : L.length ≤ 100000000) (u : ByteArray) (hu : u.size ≤ 2000) (x : Int) (q : Nat) (hx : x = q) : Calls Tryz.prog 121 #[.pointer (some ⟨b, 0, none⟩), .string u, .int .i64 x] w fun e w' => e = .returned (.tuple #[]) ∧ (∃ v', Wk w' B b c bud a (L ++ (10 :: seg u 0 u.size)) u q v') ∧ Below B w w' := by
  subst hx
  have hlt := hm.row.lt
  have hlow := hm.low
  have h1 : w.cell? ⟨b, 3, none⟩ = some v := hm.row.cell (i := 3) (by omega)
  have h2 := hm.own
  have h3 := hm.row.frozen 3
  have hsz := seg_size u
  have HM := hide hm
  have HS := hide (fun w => src_str w u)
  go_enter Tryz.func121, Tryz.ntmps121
  go_wp2_with (first | (at_builtin; refine wpList_more rfl _ _ 83 rfl rfl (h2.same (w' := w.alloc (.cells #[.int .u8 10] 5)) (by simp) (fun k hk _ => Below.heap_alloc w _ k hk)) (by simp; omega) (by simp; omega) _ [10] rfl (Src.ofSlice _ Tryz.underlying83 ⟨w.heap.size, 0, none⟩ 1 1 (ubs [10]) rfl (World.news_of_block (heap_alloc_new w _)) (by intro u hu; simp [ubs] at hu; subst hu; rfl)) (by simp; omega) ?_))
  · intro v3 w3 hown3 hb3 hbk3
    have hbB : Below B w w3 := ((Below.refl B w).alloc (by omega) _).trans hb3
    have hrow3 : w3.rowIs b 104 6 (wkC c bud a v t p) := (hm.row.alloc _).of_block hbk3
    have hk3 := hm.ways hrow3 hown3
    obtain ⟨g1, cap1, rfl⟩ := hown3.shape
    have k1 : w3.cell? ⟨b, 3, none⟩ = some v := hrow3.cell (i := 3) (by omega)
    have k2 := hrow3.frozen 3
    have hz3 := hb3.size
    have HB3 := hide (hbB.setCell (p := ⟨b, 3, none⟩) hlow (.slice (some ⟨g1, 0, none⟩) (L ++ [10]).length cap1))
    have HK3 := hide hk3
    clear hown3 hb3 hbk3 hbB hrow3 hk3 h2 hm h1 h3
    generalize hN : (L ++ [10]).length = N at *
    go_wp2_with (first | (at_builtin; refine wpList_more rfl _ _ 9 rfl rfl (unhide HK3).own (by have := (unhide HB3).size; omega) (unhide HK3).row.lt _ (seg u 0 u.size) rfl (unhide HS _) ?d1 ?_))
    case d1 => simp only [List.length_append, List.length_cons, List.length_nil]; omega
    · intro v5 w5 hown5 hb5 hbk5
      have hk3 := unhide HK3
      have hrow5 : w5.rowIs b 104 6 _ := hk3.row.of_block hbk5
      have hb5' : Below B w w5 := (unhide HB3).trans hb5
      have hk5 := ((hk3.ways hrow5 hown5).trees u).place q
      obtain ⟨g2, cap2, rfl⟩ := hown5.shape
      have k3 : w5.cell? ⟨b, 3, none⟩ = some (.slice (some ⟨g1, 0, none⟩) N cap1) := hrow5.cell (i := 3) (by omega)
      have k4 : w5.cell? ⟨b, 4, none⟩ = some (.string t) := hrow5.cell (i := 4) (by omega)
      have k5 : w5.cell? ⟨b, 5, none⟩ = some (.int .i64 (p : Int)) := hrow5.cell (i := 5) (by omega)
      have f3 := hrow5.frozen 3
      have f4 := hrow5.frozen 4
      have f5 := hrow5.frozen 5
      have HK5 := hide hk5
      have HB5 := hide (((hb5'.setCell (p := ⟨b, 3, none⟩) hlow (.slice (some ⟨g2, 0, none⟩) (L ++ 10 :: seg u 0 u.size).length cap2)).setCell (p := ⟨b, 4, none⟩) hlow (.string u)).setCell (p := ⟨b, 5, none⟩) hlow (.int .i64 (q : Int)))
      clear hown5 hb5 hbk5 hrow5 hb5' hk5 hk3 HK3 HB3 HM k1 k2 HS
      generalize hN2 : (L ++ 10 :: seg u 0 u.size).length = N2 at *
      go_wp2
      go_end0
      exact ⟨rfl, ⟨_, unhide HK5⟩, unhide HB5⟩
end
end Go.Proofs.YtnfaiaoipeholaaGreatDoor

namespace Go.Proofs.YtnfaiaoipeholaaGreatDoor
open Go.RowKit
theorem qB_size (t : ByteArray) (q : Qd) : (qB t q).size ≤ t.size := by
  by_cases h : q.1 ≤ q.2.1 ∧ q.2.1 ≤ q.2.2.1 ∧ q.2.2.1 ≤ q.2.2.2 ∧ q.2.2.2 ≤ t.size
  · rw [qB_yes h, ByteArray.size_append, ByteArray.size_append, ByteArray.size_extract, ByteArray.size_extract, ByteArray.size_extract]
    omega
  · rw [qB_no h]; exact Nat.le_refl _
theorem keepQ {W w' : World} {g b o : Nat} {x0 x1 x2 x3 u : Value} (h : Below W.heap.size W w') (e0 : W.cell? ⟨g, 0, none⟩ = some x0) (e1 : W.cell? ⟨g, 1, none⟩ = some x1) (e2 : W.cell? ⟨g, 2, none⟩ = some x2) (e3 : W.cell? ⟨g, 3, none⟩ = some x3) (d : W.cell? ⟨b, o, none⟩ = some u) :
    w'.cell? ⟨g, 0, none⟩ = some x0 ∧ w'.cell? ⟨g, 1, none⟩ = some x1 ∧ w'.cell? ⟨g, 2, none⟩ = some x2 ∧ w'.cell? ⟨g, 3, none⟩ = some x3 ∧ w'.cell? ⟨b, o, none⟩ = some u :=
  ⟨(h.cell (p := ⟨g, 0, none⟩) (World.block_lt_of_cell? W _ e0)).trans e0, (h.cell (p := ⟨g, 1, none⟩) (World.block_lt_of_cell? W _ e1)).trans e1, (h.cell (p := ⟨g, 2, none⟩) (World.block_lt_of_cell? W _ e2)).trans e2, (h.cell (p := ⟨g, 3, none⟩) (World.block_lt_of_cell? W _ e3)).trans e3, (h.cell (p := ⟨b, o, none⟩) (World.block_lt_of_cell? W _ d)).trans d⟩
section
variable {w : World} {B b : Nat} {s c : ByteArray} {bud a : Nat} {L : List Int} {t : ByteArray} {p : Nat} {v : Value} {f : TF}
theorem Wk.drew (h : Wk w B b c bud a L t p v) : Wk w.drew B b c bud a L t p v := ⟨h.row, h.own, h.low⟩
/-- what walkOn answers -/
def OutWk (w : World) (B b : Nat) (c : ByteArray) (bud : Nat) (L : List Int) (t : ByteArray) (p : Nat) (r : Nat × Qd × Nat) (e : Ending) (w' : World) : Prop :=
  e = .returned (.int .i64 (r.1 : Int)) ∧ Below B w w' ∧ (if r.1 = 0 then ∃ v', Wk w' B b c bud r.2.2 (L ++ (10 :: seg (qB t r.2.1) 0 (qB t r.2.1).size)) (qB t r.2.1) r.2.1.1 v' else ∃ v', Wk w' B b c bud r.2.2 L t p v')
set_option maxHeartbeats 1000000 in
set_option maxRecDepth 1000000 in
theorem walkOn_any (hT : TreeOf s t f) (hm : Wk w B b c bud a L t p v) (hc : c.size ≤ 300) (hL : L.length ≤ 100000000) (hb : bud ≤ 9999) (ha : a ≤ bud) : Calls Tryz.prog 65 #[.pointer (some ⟨b, 0, none⟩)] w (OutWk w B b c bud L t p (wk c t bud p a)) := by
  have hz := hT.le
  have hlt := hm.row.lt
  have hlow := hm.low
  have HT := hide hT
  have HM := hide hm
  have c4 : w.cell? ⟨b, 4, none⟩ = some (.string t) := hm.row.cell (i := 4) (by omega)
  have hQ : (allQ t).length ≤ 9000000 := by
    have := upQ_len hz t.size
    have e : allQ t = upQ t t.size := rfl
    rw [e]
    have : t.size * 2003 ≤ 2000 * 2003 := Nat.mul_le_mul_right _ hz
    omega
  unfold wk
  generalize hR : wkF c t bud (allQ t) (ffN (allQ t) p) (allQ t).length 0 a = R
  have HR := hide hR
  clear hm hT hR
  go_enter Tryz.func65, Tryz.ntmps65
  go_wp2_with fail
  refine (stepsOf_any (unhide HT) _).mono ?_
  rintro e w1 ⟨vs, rfl, hown1, hb1⟩
  generalize allQ t = Q at *
  have hk1 := (unhide HM).kept hb1
  have c5 : w1.cell? ⟨b, 5, none⟩ = some (.int .i64 (p : Int)) := hk1.row.cell (i := 5) (by omega)
  have HK1 := hide hk1
  have HO1 := hide hown1
  have HB1 := hide hb1
  clear hk1 hown1 hb1 c4 HM
  go_wp2_with (first | (go_at_call 118; refine (firstFrom_any (unhide HO1) hQ _ p rfl).mono ?_; rintro e w' ⟨rfl, hw⟩; replace hw := hw.symm; subst hw))
  generalize hF : ffN Q p = F at *
  have hFl : F ≤ Q.length := by rw [← hF]; exact ffN_le Q p
  clear hF c5
  go_loopw [5] (fun iv wr => ∃ k : Nat, iv = .int .i64 k ∧ k ≤ Q.length ∧ a + k ≤ bud ∧ Hid (Wk wr B b c bud (a + k) L t p v) ∧ Hid (wr.ownsRow w.heap.size 145 4 vs Q.length (qcs Q)) ∧ Hid (Below B w wr) ∧ Hid (wkF c t bud Q F (Q.length - k) k (a + k) = R)) (fun iv _ => Q.length - (intOf iv).toNat)
  case atStart => exact ⟨0, rfl, Nat.zero_le _, by omega, HK1, HO1, hide ((unhide HB1).mono (by omega)), HR⟩
  case round =>
    obtain ⟨k, rfl, hk, hak, hK, hO, hB, hr⟩ := hrel
    obtain ⟨ao, cap, rfl, hcs⟩ := row_form (unhide hO)
    clear HK1 HO1 HB1 HR
    have d1 : wr.cell? ⟨b, 1, none⟩ = some (.int .i64 (bud : Int)) := (unhide hK).row.cell (i := 1) (by omega)
    have d2 : wr.cell? ⟨b, 2, none⟩ = some (.int .i64 ((a + k : Nat) : Int)) := (unhide hK).row.cell (i := 2) (by omega)
    have d4 : wr.cell? ⟨b, 4, none⟩ = some (.string t) := (unhide hK).row.cell (i := 4) (by omega)
    by_cases hlt2 : k < Q.length
    · have hst := unhide hr
      rw [show Q.length - k = (Q.length - (k + 1)) + 1 by omega] at hst
      unfold wkF at hst
      by_cases hbk : bud ≤ a + k
      · rw [if_pos hbk] at hst
        subst hst
        clear hcs hr
        go_wp2_with fail
        go_region_held (fun w' => w'.cell? ⟨b, 1, none⟩ = some (.int .i64 (bud : Int)) ∧ w'.cell? ⟨b, 2, none⟩ = some (.int .i64 ((a + k : Nat) : Int))) (exact ⟨d1, d2⟩) (fail)
        go_wp2
        go_ret
        exact ⟨rfl, (unhide hB).drew, by rw [if_neg (by simp)]; exact ⟨_, (unhide hK).drew⟩⟩
      · rw [if_neg hbk] at hst
        have hmod : (F + k) % Q.length < Q.length := Nat.mod_lt _ (by omega)
        obtain ⟨g, rfl, hcap, e0, e1, e2, e3⟩ := hcs ((F + k) % Q.length) hmod
        have hqk : qK Q F k = Q[(F + k) % Q.length] := by unfold qK; rw [List.getD_eq_getElem?_getD, List.getElem?_eq_getElem hmod]; rfl
        rw [hqk] at hst
        have hmi : ((F : Int) + (k : Int)) % (Q.length : Int) = (((F + k) % Q.length : Nat) : Int) := by simp
        clear hqk
        generalize Q[(F + k) % Q.length] = qq at *
        generalize (F + k) % Q.length = M at *
        obtain ⟨x0, x1, x2, x3⟩ := qq
        simp only at e0 e1 e2 e3
        clear hcs
        go_wp2_with fail
        go_region_held (fun w' => w'.cell? ⟨b, 1, none⟩ = some (.int .i64 (bud : Int)) ∧ w'.cell? ⟨b, 2, none⟩ = some (.int .i64 ((a + k : Nat) : Int))) (exact ⟨d1, d2⟩) (fail)
        go_wp2_with fail
        have hwl : b < wr.heap.size := (unhide hK).row.lt
        have hbA : Below wr.heap.size wr (wr.alloc (.cells #[.int .i64 (x0 : Int), .int .i64 (x1 : Int), .int .i64 (x2 : Int), .int .i64 (x3 : Int)] 145)).drew := ((Below.refl _ _).alloc (Nat.le_refl _) _).drew
        have p0 : ∀ j, (wr.alloc (.cells #[.int .i64 (x0 : Int), .int .i64 (x1 : Int), .int .i64 (x2 : Int), .int .i64 (x3 : Int)] 145)).drew.cell? ⟨wr.heap.size, j, none⟩ = #[.int .i64 (x0 : Int), .int .i64 (x1 : Int), .int .i64 (x2 : Int), .int .i64 (x3 : Int)][j]? := fun j => by
          show (wr.alloc _).cell? _ = _
          rw [World.cell?_alloc_new]
        generalize hW2 : (wr.alloc (.cells #[.int .i64 (x0 : Int), .int .i64 (x1 : Int), .int .i64 (x2 : Int), .int .i64 (x3 : Int)] 145)).drew = W2 at *
        have y0 := p0 0
        have y1 := p0 1
        have y2 := p0 2
        have y3 := p0 3
        have z4 := (hbA.cell (p := ⟨b, 4, none⟩) hwl).trans d4
        have hK2 := hide ((unhide hK).kept hbA)
        have hO2 := hide ((unhide hO).kept (gb_below b hbA) (.inr (fun e => by have := ((unhide hO).lt b e).1; omega)))
        have hB2 := hide ((unhide hB).trans (hbA.mono (by have := (unhide hB).size; omega)))
        clear p0 hW2 hbA hK hO hB hr d1 d2 d4 e0 e1 e2 e3
        go_region_held (fun w' => w'.cell? ⟨wr.heap.size, 0, none⟩ = some (.int .i64 (x0 : Int)) ∧ w'.cell? ⟨wr.heap.size, 1, none⟩ = some (.int .i64 (x1 : Int)) ∧ w'.cell? ⟨wr.heap.size, 2, none⟩ = some (.int .i64 (x2 : Int)) ∧ w'.cell? ⟨wr.heap.size, 3, none⟩ = some (.int .i64 (x3 : Int)) ∧ w'.cell? ⟨b, 4, none⟩ = some (.string t)) (first | exact keepQ ((Below.refl _ _).drew) y0 y1 y2 y3 z4 | exact keepQ (((Below.refl W2.heap.size W2).drew).trans hb3) y0 y1 y2 y3 z4) (first | (go_at_call 119; refine (of_any t x0 x1 x2 x3 _ hz).mono ?_; rintro e w3 ⟨rfl, hb3⟩))
        have hb3' : Below W2.heap.size W2 w3 := ((Below.refl W2.heap.size W2).drew).trans hb3
        have hK3 := hide ((unhide hK2).kept hb3')
        have hO3 := hide ((unhide hO2).kept (gb_below b hb3') (.inr (fun e => by have := ((unhide hO2).lt b e).1; omega)))
        have hB3 := hide ((unhide hB2).trans (hb3'.mono (by have := (unhide hB2).size; omega)))
        obtain ⟨s0, _, _, _, _⟩ := keepQ hb3' y0 y1 y2 y3 z4
        have hsl := hb3'.size
        have hgl : wr.heap.size < w3.heap.size := World.block_lt_of_cell? w3 _ s0
        have hus := qB_size t (x0, x1, x2, x3)
        generalize hU : qB t (x0, x1, x2, x3) = U at *
        have HU := hide hU
        clear hU
        clear hK2 hO2 hB2 y0 y1 y2 y3 z4 hb3 hb3'
        go_wp2_with fail
        refine (ask_any (unhide hK3) hc U (by omega) (by omega)).mono ?_
        cases h1 : hld c (wd U)
        · rintro e w4 ⟨rfl, hk4, hg4⟩
          rw [if_neg (by rw [h1]; decide)] at hst
          have hb4 : Below B w3 w4 := gb_to hg4 hlow (by omega)
          have HK4 := hide hk4
          have HO4 := hide ((unhide hO3).kept hg4 (.inr (fun e => by have := ((unhide hO3).lt b e).1; omega)))
          have HB4 := hide ((unhide hB3).trans hb4)
          have HS := hide hst
          clear hst hk4 hg4 hb4 hK3 hO3 hB3 h1 HU s0
          go_wp2
          go_roundw
          case rel => exact ⟨k + 1, by go_num, by omega, by omega, HK4, HO4, HB4, HS⟩
          case measure => simp [intOf]; omega
        · rintro e w4 ⟨rfl, hk4, hg4⟩
          rw [if_pos h1] at hst
          have hb4 : Below B w3 w4 := gb_to hg4 hlow (by omega)
          have s4 := hg4.cell s0 (by intro e; injection e with e; have : wr.heap.size = b := e; omega)
          have HK4 := hide hk4
          have HB4 := hide ((unhide hB3).trans hb4)
          clear hk4 hg4 hb4 hK3 hO3 hB3 h1 s0
          subst hst
          go_wp2_with fail
          refine (take_any (unhide HK4) hL U (by omega) _ x0 rfl).mono ?_
          rintro e w5 ⟨rfl, ⟨v5, hk5⟩, hb5⟩
          have HK5 := hide hk5
          have HB5 := hide ((unhide HB4).trans hb5)
          clear hk5 hb5 s4
          go_wp2
          go_ret
          refine ⟨rfl, unhide HB5, ?_⟩
          rw [if_pos rfl]
          simp only
          rw [unhide HU]
          exact ⟨v5, unhide HK5⟩
    · have e : k = Q.length := by omega
      have hst := unhide hr
      rw [show Q.length - k = 0 by omega] at hst
      simp only [wkF] at hst
      subst hst
      clear hcs hr
      go_wp2
      go_ret
      exact ⟨rfl, unhide hB, by rw [if_neg (by simp)]; exact ⟨_, unhide hK⟩⟩
end
end Go.Proofs.YtnfaiaoipeholaaGreatDoor
