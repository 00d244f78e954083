/- PReduceT RElem RWithin -/
import Derived.Test.YtnfaiaoipeholaaGreatDoorAa36
import Derived.Test.YtnfaiaoipeholaaGreatDoorAa05
import Derived.Lib.ConvBytes
import Derived.Test.YtnfaiaoipeholaaGreatDoorAa19
import Derived.Test.YtnfaiaoipeholaaGreatDoorAa31
import Derived.Test.YtnfaiaoipeholaaGreatDoorAa34
import Derived.Deep.RegionLaw
namespace Go.Proofs.YtnfaiaoipeholaaGreatDoor
open Go.RowKit
theorem results_tmp4 {fn : Func} {t u v x : Tmp} (h : fn.results = #[.tmp t, .tmp u, .tmp v, .tmp x]) (tmps : Array Value) (P : Program) (w : World) :
    (results fn tmps).run P w = .ok (.tuple #[tmps.getD t undef, tmps.getD u undef, tmps.getD v undef, tmps.getD x undef]) w := by
  simp [results, h]
theorem bytc_size (w : World) (e : TypeId) (s : ByteArray) : (Go.Lib.bytesCells w e s).size = grownCap w s.size 0 e := by
  have := grownCap_ge w s.size 0 e
  unfold Go.Lib.bytesCells
  rw [Array.size_append, Array.size_map, Array.size_replicate]
  show s.size + _ = _
  omega
/-- a text's bytes in a row of their own -/
theorem RowB.conv (W : World) (t : ByteArray) (ht : t.size ≤ 2000) : RowB (Go.Lib.bytesWorld W 5 t) W.heap.size (W.heap.size + 1) (.slice (some ⟨W.heap.size, 0, none⟩) t.size (grownCap W t.size 0 5)) (seg t 0 t.size) := by
  have hn := Go.Lib.bytesWorld_at_new W 5 t
  have hz := bytc_size W 5 t
  have hge := grownCap_ge W t.size 0 5
  refine ⟨W.heap.size, grownCap W t.size 0 5, by rw [seg_size], Nat.le_refl _, by omega, by rw [Go.Lib.bytesWorld_size]; omega, by rw [seg_size]; exact hge, grownCap_le_maxLen W t.size 0 5 (by unfold maxLen; omega), fun j hj => ?_, fun j hj => ⟨?_, ?_⟩⟩
  · rw [seg_size] at hj
    rw [Go.Lib.bytesWorld_cell W 5 t j hj, ← bytc_ubs]
    unfold byteCells
    have hl : j < t.data.toList.length := by rw [Array.length_toList]; exact hj
    rw [List.getElem?_map, List.getElem?_eq_getElem hl, List.getD_eq_getElem?_getD, List.getElem?_eq_getElem hl]
    rfl
  · simp only [World.cell?, hn]
    rw [Array.getElem?_eq_getElem (by rw [hz]; exact hj)]; rfl
  · simp only [World.frozen?, hn]
    simp; omega
/-- how long the tree is that a walk is at -/
def stz (w : World) (b : Nat) : Nat := match w.cell? ⟨b, 4, none⟩ with
  | some (.string u) => u.size + 1
  | _ => 1
theorem wayL_push (u : ByteArray) : ∀ (r : List ByteArray) (t : ByteArray), wayL (t :: (r ++ [u])) = wayL (t :: r) ++ (10 :: seg u 0 u.size)
  | [], t => by simp [wayL]
  | x :: r, t => by
    have := wayL_push u r x
    simp only [List.cons_append, wayL] at this ⊢
    rw [this]; simp
/-- the walk, while it goes on -/
structure GoI (s t c : ByteArray) (bd : Nat) (B b : Nat) (w wr : World) (u : ByteArray) (f : TF) (r : List ByteArray) (p a m : Nat) (v : Value) : Prop where
  mem : Wk wr B b c bd a (wayL (t :: r)) u p v
  tree : TreeOf s u f
  goes : gw c bd (t.size + 1) t 0 0 = (r ++ (gw c bd m u p a).1, (gw c bd m u p a).2)
  fuel : u.size < m
  le : a ≤ bd
  bel : Below w.heap.size w wr
  len : (wayL (t :: r)).length ≤ (r.length + 1) * 2001
  few : r.length + u.size ≤ t.size
/-- .. and when it has ended -/
structure EndI (t c : ByteArray) (bd : Nat) (B b : Nat) (w wr : World) (u : ByteArray) (r : List ByteArray) (p a y : Nat) (v : Value) : Prop where
  mem : Wk wr B b c bd a (wayL (t :: r)) u p v
  goes : gw c bd (t.size + 1) t 0 0 = (r, a, y)
  bel : Below w.heap.size w wr
  ne : y ≠ 0
section
variable {s t c : ByteArray}
theorem rdc_yes {b : Int} (h : rfs s t c b = 0) : rdc s t c b = (strOfNums (wayL (t :: (gw c b.toNat (t.size + 1) t 0 0).1)), (gw c b.toNat (t.size + 1) t 0 0).2.1, (gw c b.toNat (t.size + 1) t 0 0).2.2, 0) := by
  unfold rdc; rw [if_neg (by simp [h])]
theorem RowB.str {w : World} {B b : Nat} {v : Value} {L : List Int} (h : RowB w B b v L) : ∃ g cap, v = .slice (some ⟨g, 0, none⟩) L.length cap ∧ (convert 83 9 (.slice (some ⟨g, 0, none⟩) L.length cap)).run Tryz.prog w = .ok (.string (strOfNums L)) w := by
  obtain ⟨g, cap, h1, _, _, _, _, _, h7, _⟩ := h
  refine ⟨g, cap, h1, run_convert_bytes_arg _ 83 5 Tryz.underlying83 Tryz.underlying5 g 0 L.length cap L rfl (fun i hi => ?_) _ Tryz.underlying9⟩
  rw [Nat.zero_add, h7 i hi]
  unfold ubs
  rw [List.getElem?_map, List.getElem?_eq_getElem hi, List.getD_eq_getElem?_getD, List.getElem?_eq_getElem hi]; rfl
theorem GoI.start {bd : Nat} {w w3 : World} {f : TF} (hf : TreeOf s t f) (hb : Below w.heap.size w w3) :
    GoI s t c bd w.heap.size (w3.heap.size + 1) w ((Go.Lib.bytesWorld w3 5 t).alloc (.cells #[.string c, .int .i64 (bd : Int), .int .i64 0, .slice (some ⟨w3.heap.size, 0, none⟩) t.size (grownCap w3 t.size 0 5), .string t, .int .i64 0] 104)) t f [] 0 0 (t.size + 1) (.slice (some ⟨w3.heap.size, 0, none⟩) t.size (grownCap w3 t.size 0 5)) := by
  have hz := hf.le
  have hW : (Go.Lib.bytesWorld w3 5 t).heap.size = w3.heap.size + 1 := Go.Lib.bytesWorld_size w3 5 t
  have hB3 : Below w.heap.size w (Go.Lib.bytesWorld w3 5 t) := ⟨hb.os, hb.tape, hb.output, by have := hb.size; omega, fun k hk => (Go.Lib.bytesWorld_at_old w3 5 t k (Nat.lt_of_lt_of_le hk hb.size)).trans (hb.block k hk)⟩
  have hr := RowB.conv w3 t hz
  have hrow := World.rowIs_alloc (Go.Lib.bytesWorld w3 5 t) #[.string c, .int .i64 (bd : Int), .int .i64 0, .slice (some ⟨w3.heap.size, 0, none⟩) t.size (grownCap w3 t.size 0 5), .string t, .int .i64 0] 104 (wkC c bd 0 (.slice (some ⟨w3.heap.size, 0, none⟩) t.size (grownCap w3 t.size 0 5)) t 0) (fun i hi => by
    match i, hi with
    | 0, _ => rfl
    | 1, _ => rfl
    | 2, _ => rfl
    | 3, _ => rfl
    | 4, _ => rfl
    | 5, _ => rfl)
  rw [hW] at hrow
  refine ⟨⟨hrow, ?_, by have := hb.size; omega⟩, hf, by simp, by omega, by omega, hB3.alloc (by have := hb.size; omega) _, by simp [wayL, seg_size]; omega, by simp⟩
  have h2 := hr.same (w' := (Go.Lib.bytesWorld w3 5 t).alloc (.cells #[.string c, .int .i64 (bd : Int), .int .i64 0, .slice (some ⟨w3.heap.size, 0, none⟩) t.size (grownCap w3 t.size 0 5), .string t, .int .i64 0] 104)) (by simp) (fun k hk _ => Below.heap_alloc _ _ k hk)
  obtain ⟨g, cap, a1, a2, a3⟩ := h2
  exact ⟨g, cap, a1, by have := hb.size; omega, a3⟩
theorem GoI.next {bd B b p a m : Nat} {w wr w' : World} {u : ByteArray} {f : TF} {r : List ByteArray} {v v' : Value} (hk : (chk s).1 = 0) (h : GoI s t c bd B b w wr u f r p a m v) (h0 : (wk c u bd p a).1 = 0) (hb : Below w.heap.size w w') (hw : Wk w' B b c bd (wk c u bd p a).2.2 (wayL (t :: r) ++ (10 :: seg (qB u (wk c u bd p a).2.1) 0 (qB u (wk c u bd p a).2.1).size)) (qB u (wk c u bd p a).2.1) (wk c u bd p a).2.1.1 v') :
    ∃ f', GoI s t c bd B b w w' (qB u (wk c u bd p a).2.1) f' (r ++ [qB u (wk c u bd p a).2.1]) (wk c u bd p a).2.1.1 (wk c u bd p a).2.2 (m - 1) v' ∧ (qB u (wk c u bd p a).2.1).size < u.size := by
  obtain ⟨r1, r2, r3, r4, r5, r6, r7⟩ := wk_ok (c := c) h.tree (b := bd) (p := p) (a := a) h.le
  obtain ⟨q1, q2⟩ := r5 h0
  obtain ⟨st, f', hf'⟩ := stp_of hk h.tree q1
  have hsz := st.sz
  have hfu := h.fuel
  have hfe := h.few
  have hle := hf'.le
  obtain ⟨m', rfl⟩ : ∃ m', m = m' + 1 := ⟨m - 1, by omega⟩
  refine ⟨f', ⟨by rw [wayL_push]; exact hw, hf', ?_, by simp; omega, r1, hb, ?_, by simp; omega⟩, hsz⟩
  · rw [h.goes]
    conv => lhs; unfold gw
    rw [if_pos h0]
    simp
  · have hl := h.len
    rw [wayL_push, List.length_append, List.length_cons, seg_size, List.length_append, List.length_cons, List.length_nil]
    have e : (r.length + (0 + 1) + 1) * 2001 = (r.length + 1) * 2001 + 2001 := by omega
    omega
theorem GoI.done {bd B b p a m : Nat} {w wr w' : World} {u : ByteArray} {f : TF} {r : List ByteArray} {v v' : Value} (h : GoI s t c bd B b w wr u f r p a m v) (h0 : (wk c u bd p a).1 ≠ 0) (hb : Below w.heap.size w w') (hw : Wk w' B b c bd (wk c u bd p a).2.2 (wayL (t :: r)) u p v') :
    EndI t c bd B b w w' u r p (wk c u bd p a).2.2 (wk c u bd p a).1 v' := by
  have hfu := h.fuel
  obtain ⟨m', rfl⟩ : ∃ m', m = m' + 1 := ⟨m - 1, by omega⟩
  refine ⟨hw, ?_, hb, h0⟩
  rw [h.goes]
  conv => lhs; unfold gw
  rw [if_neg h0]
  simp
/-- what Reduce answers -/
def OutRd (s t c : ByteArray) (bud : Int) (w : World) (e : Ending) (w' : World) : Prop :=
  e = .returned (.tuple #[.string (rdc s t c bud).1, .int .i64 ((rdc s t c bud).2.1 : Int), .int .i64 ((rdc s t c bud).2.2.1 : Int), .int .i64 (rdc s t c bud).2.2.2]) ∧ Below w.heap.size w w'
theorem OutRd.no {bud : Int} {w w' : World} {x : Int} (h : rfs s t c bud = x) (hx : x ≠ 0) (hb : Below w.heap.size w w') : OutRd s t c bud w (.returned (.tuple #[.string ⟨#[]⟩, .int .i64 0, .int .i64 0, .int .i64 x])) w' := by
  unfold OutRd
  rw [rdc_no (by rw [h]; exact hx), h]
  exact ⟨rfl, hb⟩
set_option maxHeartbeats 1000000 in
set_option maxRecDepth 1000000 in
theorem rReduce_any (hk : (chk s).1 = 0) (w : World) (ht : t.size ≤ maxLen) (hc : c.size ≤ maxLen) (bud : Int) : Calls Tryz.prog 26 #[.string s, .string t, .string c, .int .i64 bud] w (OutRd s t c bud w) := by
  have G := hide (gram_of hk)
  have hwh := hgt_good (t := t) hk
  by_cases h1 : (hgt s t).2 = 0
  · obtain ⟨_, f, n, hf, hn⟩ := hgt_tree h1
    have hz := hf.le
    have HW : Hid (wh s t = ((n : Int), 0)) := hide (by rw [← hwh, hn])
    have hwz := wd_size t
    clear hwh
    cases h2 : cnd c
    · have HR : Hid (rfs s t c bud = 14) := hide (by unfold rfs; rw [if_neg (by simp [h1]), if_pos h2])
      have H2 := hide h2
      have HO : Hid (∀ w', Below w.heap.size w w' → OutRd s t c bud w (.returned (.tuple #[.string ⟨#[]⟩, .int .i64 0, .int .i64 0, .int .i64 14])) w') := hide (fun w' h => OutRd.no (unhide HR) (by decide) h)
      clear h1 h2 hf hn HR
      generalize OutRd s t c bud w = Post at *
      go_enter Tryz.func26, Tryz.ntmps26
      go_wp2_with (first
        | (go_at_call 22; refine (tHeight_any (unhide G) _ ht).mono ?_; rw [unhide HW]; rintro e w2 ⟨rfl, hw⟩; replace hw := hw.symm; subst hw)
        | (go_at_call 62; refine (isCondition_any _ _ hc).mono ?_; rw [unhide H2]; rintro e w2 ⟨rfl, hw⟩; replace hw := hw.symm; subst hw))
      refine bodyPost_ret (results_tmp4 rfl _ _ _) rfl ?_
      exact unhide HO _ (Below.refl _ _)
    · have hc3 : c.size ≤ 300 := by
        unfold cnd at h2
        simp only [Bool.and_eq_true, decide_eq_true_eq] at h2
        exact h2.1
      have H2 := hide h2
      by_cases h3 : bud < 0 ∨ 9999 < bud
      · have HR : Hid (rfs s t c bud = 9) := hide (by unfold rfs; rw [if_neg (by simp [h1]), if_neg (by simp [h2]), if_pos h3])
        have HO : Hid (∀ w', Below w.heap.size w w' → OutRd s t c bud w (.returned (.tuple #[.string ⟨#[]⟩, .int .i64 0, .int .i64 0, .int .i64 9])) w') := hide (fun w' h => OutRd.no (unhide HR) (by decide) h)
        clear h1 h2 hf hn HR
        generalize OutRd s t c bud w = Post at *
        go_enter Tryz.func26, Tryz.ntmps26
        go_wp2_with (first
          | (go_at_call 22; refine (tHeight_any (unhide G) _ ht).mono ?_; rw [unhide HW]; rintro e w2 ⟨rfl, hw⟩; replace hw := hw.symm; subst hw)
          | (go_at_call 62; refine (isCondition_any _ _ hc).mono ?_; rw [unhide H2]; rintro e w2 ⟨rfl, hw⟩; replace hw := hw.symm; subst hw))
        all_goals first
          | (refine bodyPost_ret (results_tmp4 rfl _ _ _) rfl ?_; exact unhide HO _ (Below.refl _ _))
          | (exfalso; omega)
      · obtain ⟨bd, rfl⟩ : ∃ bd : Nat, bud = bd := ⟨bud.toNat, by omega⟩
        have hbd : bd ≤ 9999 := by omega
        cases h4 : hld c (wd t)
        · have HR : Hid (rfs s t c bd = 15) := hide (by unfold rfs; rw [if_neg (by simp [h1]), if_neg (by simp [h2]), if_neg h3, if_pos h4])
          have HO : Hid (∀ w', Below w.heap.size w w' → OutRd s t c bd w (.returned (.tuple #[.string ⟨#[]⟩, .int .i64 0, .int .i64 0, .int .i64 15])) w') := hide (fun w' h => OutRd.no (unhide HR) (by decide) h)
          have H4 := hide h4
          clear h1 h2 hf hn HR h3 h4
          generalize OutRd s t c bd w = Post at *
          go_enter Tryz.func26, Tryz.ntmps26
          go_wp2_with (first
            | (go_at_call 22; refine (tHeight_any (unhide G) _ ht).mono ?_; rw [unhide HW]; rintro e w2 ⟨rfl, hw⟩; replace hw := hw.symm; subst hw)
            | (go_at_call 62; refine (isCondition_any _ _ hc).mono ?_; rw [unhide H2]; rintro e w2 ⟨rfl, hw⟩; replace hw := hw.symm; subst hw)
            | (go_at_call 63; refine (treeWord_any t _ (by omega)).mono ?_; rintro e w3 ⟨rfl, hb3⟩; replace hb3 := hide hb3)
            | (go_at_call 64; refine (holds_any _ _ _ hc3 (by omega)).mono ?_; rw [unhide H4]; rintro e w2 ⟨rfl, hw⟩; replace hw := hw.symm; subst hw))
          refine bodyPost_ret (results_tmp4 rfl _ _ _) rfl ?_
          exact unhide HO _ (unhide hb3)
        · have H4 := hide h4
          have HR : Hid (rfs s t c bd = 0) := hide (by unfold rfs; rw [if_neg (by simp [h1]), if_neg (by simp [h2]), if_neg h3, if_neg (by simp [h4])])
          have HF := hide hf
          clear h1 h2 hf hn h3 h4
          have hcv : ∀ W : World, (convert 9 83 (.string t)).run Tryz.prog W = .ok (.slice (some ⟨W.heap.size, 0, none⟩) t.size (grownCap W t.size 0 5)) (Go.Lib.bytesWorld W 5 t) := fun W => Go.Lib.run_convert_string_bytes W 9 83 5 t Tryz.underlying9 Tryz.underlying83 Tryz.underlying5
          go_enter Tryz.func26, Tryz.ntmps26
          go_wp2_with (first
            | (go_at_call 22; refine (tHeight_any (unhide G) _ ht).mono ?_; rw [unhide HW]; rintro e w2 ⟨rfl, hw⟩; replace hw := hw.symm; subst hw)
            | (go_at_call 62; refine (isCondition_any _ _ hc).mono ?_; rw [unhide H2]; rintro e w2 ⟨rfl, hw⟩; replace hw := hw.symm; subst hw)
            | (go_at_call 63; refine (treeWord_any t _ (by omega)).mono ?_; rintro e w3 ⟨rfl, hb3⟩; replace hb3 := hide hb3)
            | (go_at_call 64; refine (holds_any _ _ _ hc3 (by omega)).mono ?_; rw [unhide H4]; rintro e w2 ⟨rfl, hw⟩; replace hw := hw.symm; subst hw)
            | fail)
          have HS := hide (GoI.start (c := c) (bd := bd) (unhide HF) (unhide hb3))
          rw [Go.Lib.bytesWorld_size]
          have hlb : w.heap.size ≤ w3.heap.size + 1 := by have := (unhide hb3).size; omega
          generalize hw4 : World.alloc _ _ = w4 at *
          generalize w3.heap.size + 1 = b at *
          clear hw4 hcv hb3
          go_loopw [16] (fun iv wr => ∃ (u : ByteArray) (r : List ByteArray) (p a y : Nat) (v : Value), iv = .int .i64 (y : Int) ∧ ((y = 0 ∧ ∃ f m, Hid (GoI s t c bd w.heap.size b w wr u f r p a m v)) ∨ Hid (EndI t c bd w.heap.size b w wr u r p a y v))) (fun iv wr => if intOf iv = 0 then stz wr b else 0)
          case atStart => exact ⟨t, [], 0, 0, 0, _, rfl, .inl ⟨rfl, f, t.size + 1, HS⟩⟩
          case round =>
            obtain ⟨u, r, p, a, y, v, rfl, hI⟩ := hrel
            clear HS
            rcases hI with ⟨rfl, f', m, hI⟩ | hI
            · have d4 : wr.cell? ⟨b, 4, none⟩ = some (.string u) := (unhide hI).mem.row.cell (i := 4) (by omega)
              have hst : stz wr b = u.size + 1 := by unfold stz; rw [d4]
              have hr2 : (r.length + 1) * 2001 ≤ 2001 * 2001 := Nat.mul_le_mul_right _ (by have := (unhide hI).few; omega)
              go_wp2_with fail
              refine (walkOn_any (unhide hI).tree (unhide hI).mem hc3 (by have := (unhide hI).len; omega) hbd (unhide hI).le).mono ?_
              rintro e w5 ⟨rfl, hb5, hw5⟩
              have hB5 := (unhide hI).bel.trans hb5
              by_cases h0 : (wk c u bd p a).1 = 0
              · rw [if_pos h0] at hw5
                obtain ⟨v5, hw5⟩ := hw5
                obtain ⟨f5, hn5, hlt5⟩ := (unhide hI).next hk h0 hB5 hw5
                have d5 : w5.cell? ⟨b, 4, none⟩ = some (.string (qB u (wk c u bd p a).2.1)) := hw5.row.cell (i := 4) (by omega)
                have hs5 : stz w5 b = (qB u (wk c u bd p a).2.1).size + 1 := by unfold stz; rw [d5]
                have HN := hide hn5
                clear hn5 hw5
                rw [h0]
                clear d5 d4 hB5 hb5 hI h0
                generalize (wk c u bd p a).2.1.1 = p5 at *
                generalize (wk c u bd p a).2.2 = a5 at *
                generalize qB u (wk c u bd p a).2.1 = u5 at *
                go_wp2
                go_roundw
                case rel => exact ⟨_, _, _, _, 0, _, rfl, .inl ⟨rfl, _, _, HN⟩⟩
                case measure => simp [intOf]; omega
              · rw [if_neg h0] at hw5
                obtain ⟨v5, hw5⟩ := hw5
                have HE := hide ((unhide hI).done h0 hB5 hw5)
                clear hw5 hB5 hb5 hI d4
                generalize (wk c u bd p a).2.2 = a5 at *
                generalize (wk c u bd p a).1 = y5 at *
                go_wp2
                go_roundw
                case rel => exact ⟨_, _, _, _, y5, _, rfl, .inr HE⟩
                case measure => simp [intOf, h0]; omega
            · have hy := (unhide hI).ne
              have hy' : ((y : Int) == 0) = false := by simp [hy]
              have d2 : wr.cell? ⟨b, 2, none⟩ = some (.int .i64 (a : Int)) := (unhide hI).mem.row.cell (i := 2) (by omega)
              have d3 : wr.cell? ⟨b, 3, none⟩ = some v := (unhide hI).mem.row.cell (i := 3) (by omega)
              obtain ⟨g, cap, rfl, hcs⟩ := (unhide hI).mem.own.str
              have HRD : Hid (rdc s t c bd = (strOfNums (wayL (t :: r)), a, y, 0)) := hide (by rw [rdc_yes (unhide HR), show (bd : Int).toNat = bd by omega, (unhide hI).goes])
              have HBE := hide (unhide hI).bel
              have hcd : (convert 83 9 (.slice (some ⟨g, 0, none⟩) (wayL (t :: r)).length cap)).run Tryz.prog wr.drew = .ok (.string (strOfNums (wayL (t :: r)))) wr.drew := by
                obtain ⟨g', cap', e1, e2⟩ := ((unhide hI).mem.own.same (w' := wr.drew) (Nat.le_refl _) (fun _ _ _ => rfl)).str
                cases e1
                exact e2
              clear hI hcs
              generalize hLL : (wayL (t :: r)).length = LL at *
              go_wp2_with fail
              go_region_held (fun w' => w'.cell? ⟨b, 2, none⟩ = some (.int .i64 (a : Int)) ∧ w'.cell? ⟨b, 3, none⟩ = some (.slice (some ⟨g, 0, none⟩) LL cap)) (exact ⟨d2, d3⟩) (fail)
              go_wp2
              refine bodyPost_ret (results_tmp4 rfl _ _ _) rfl ?_
              unfold OutRd
              rw [unhide HRD]
              exact ⟨rfl, (unhide HBE).drew⟩
  · have HR : Hid (rfs s t c bud = (hgt s t).2) := hide (by unfold rfs; rw [if_pos h1])
    have HO : Hid (∀ w', Below w.heap.size w w' → OutRd s t c bud w (.returned (.tuple #[.string ⟨#[]⟩, .int .i64 0, .int .i64 0, .int .i64 (hgt s t).2])) w') := hide (fun w' h => OutRd.no (unhide HR) h1 h)
    rw [hwh] at HO h1
    have h1' : ((wh s t).2 != 0) = true := by simp [h1]
    clear hwh HR h1
    generalize OutRd s t c bud w = Post at *
    go_enter Tryz.func26, Tryz.ntmps26
    go_wp2_with (first
      | (go_at_call 22; refine (tHeight_any (unhide G) _ ht).mono ?_; rintro e w2 ⟨rfl, hw⟩; replace hw := hw.symm; subst hw))
    refine bodyPost_ret (results_tmp4 rfl _ _ _) rfl ?_
    exact unhide HO _ (Below.refl _ _)
theorem rdc_bad {bud : Int} (h : (chk s).1 ≠ 0) : rdc s t c bud = (⟨#[]⟩, 0, 0, (chk s).1) := by
  have e : rfs s t c bud = (chk s).1 := by
    unfold rfs
    rw [hgt_bad h, if_pos h]
  rw [rdc_no (by rw [e]; exact h), e]
  rfl
set_option maxHeartbeats 1000000 in
theorem reduce_any (w : World) (hs : s.size ≤ maxLen) (ht : t.size ≤ maxLen) (hc : c.size ≤ maxLen) (bud : Int) : Calls Tryz.prog 12 #[.string s, .string t, .string c, .int .i64 bud] w (OutRd s t c bud w) := by
  by_cases h : (chk s).1 = 0
  · have h' : ((chk s).1 != 0) = false := by simp [h]
    have HO : Hid (∀ w1 e w2, Below w.heap.size w w1 → OutRd s t c bud w1 e w2 → OutRd s t c bud w e w2) := hide (fun w1 e w2 h1 h2 => ⟨h2.1, h1.trans (h2.2.mono h1.size)⟩)
    have HR : Hid (∀ w1, Calls Tryz.prog 26 #[.string s, .string t, .string c, .int .i64 bud] w1 (OutRd s t c bud w1)) := hide (fun w1 => rReduce_any h w1 ht hc bud)
    have HA : Hid (∀ w1 e w2, OutRd s t c bud w1 e w2 → ∃ x a y z, e = .returned (.tuple #[.string x, .int .i64 a, .int .i64 y, .int .i64 z])) := hide (fun w1 e w2 h => ⟨_, _, _, _, h.1⟩)
    clear h
    generalize OutRd s t c bud = Post at *
    go_enter Tryz.func12, Tryz.ntmps12
    go_wp2_with (first
      | (go_at_call 21; refine (rcheck_any _ _ hs).mono ?_; rintro e w1 ⟨rfl, hb1⟩; replace hb1 := hide hb1)
      | fail)
    refine (unhide HR w1).mono ?_
    intro e w2 hp
    obtain ⟨x, a, y, z, rfl⟩ := unhide HA _ _ _ hp
    have HP := hide (unhide HO _ _ _ (unhide hb1) hp)
    clear hp HA HR HO
    go_wp2
    refine bodyPost_ret (results_tmp4 rfl _ _ _) rfl ?_
    exact unhide HP
  · have HO : Hid (∀ w', Below w.heap.size w w' → OutRd s t c bud w (.returned (.tuple #[.string ⟨#[]⟩, .int .i64 0, .int .i64 0, .int .i64 (chk s).1])) w') := hide (fun w' hb => by unfold OutRd; rw [rdc_bad h]; exact ⟨rfl, hb⟩)
    have h' : ((chk s).1 != 0) = true := by simp [h]
    clear h
    generalize OutRd s t c bud w = Post at *
    go_enter Tryz.func12, Tryz.ntmps12
    go_wp2_with (first
      | (go_at_call 21; refine (rcheck_any _ _ hs).mono ?_; rintro e w1 ⟨rfl, hb1⟩; replace hb1 := hide hb1))
    refine bodyPost_ret (results_tmp4 rfl _ _ _) rfl ?_
    exact unhide HO _ (unhide hb1)
end
end Go.Proofs.YtnfaiaoipeholaaGreatDoor

namespace Go.Proofs.YtnfaiaoipeholaaGreatDoor
open Go.RowKit
/-- pieces of a text as cells -/
def pcs (t : ByteArray) (l : List (Nat × Nat)) : List Value := l.map fun p => .string (t.extract p.1 p.2)
theorem pcs_push (t : ByteArray) (l : List (Nat × Nat)) (a b : Nat) : pcs t (l ++ [(a, b)]) = pcs t l ++ [.string (t.extract a b)] := by simp [pcs]
/-- a slice of pieces, with a block of its own -/
def OutS (t : ByteArray) (l : List (Nat × Nat)) (w : World) (e : Ending) (w' : World) : Prop := ∃ v, e = .returned v ∧ w'.ownsRow w.heap.size 9 1 v l.length (pcs t l) ∧ Below w.heap.size w w'
theorem spF_end {t : ByteArray} {E n k fr : Nat} (h : E ≤ k) : spF t E n k fr = [(fr, E)] := by
  cases n with
  | zero => rfl
  | succ n => unfold spF; rw [if_pos h]

set_option maxHeartbeats 1000000 in
set_option maxRecDepth 1000000 in
theorem elements_full (t : ByteArray) (q : Int) (i : Nat) (w : World) (ht : t.size ≤ 2000) (hq : q = i) (hi : i < t.size) :
    Calls Tryz.prog 76 #[.string t, .int .i64 q] w fun e w' => OutS t (elS t i) w e w' := by
  subst hq
  have hmb := mt_bd (t := t) (j := i) (by omega)
  obtain ⟨i1, hi1, hy0, hy1, hy2⟩ := info_parts Tryz.infoStr
  generalize hN : elS t i = L
  unfold elS at hN
  generalize hE : mt t i = E at *
  have HN := hide hN
  have HE := hide hE
  obtain ⟨hm1, hm2⟩ := hmb
  clear hN hE
  go_enter Tryz.func76, Tryz.ntmps76
  go_wp2_with (go_at_call 130; refine (match_any t _ i _ ht rfl (by omega)).mono ?_; rw [unhide HE]; rintro e w' ⟨rfl, hw⟩; replace hw := hw.symm; subst hw)
  go_loopw [5, 7, 8] (fun ov fv jv wr => ∃ (k fr n : Nat) (D : List (Nat × Nat)), i + 1 ≤ fr ∧ fr ≤ k ∧ k ≤ t.size + 1 ∧ (fr ≤ E ∨ fr = i + 1) ∧ D.length ≤ k ∧ E ≤ n + k ∧ (E ≤ i + 1 → D = []) ∧ jv = .int .i64 k ∧ fv = .int .i64 fr ∧ wr.ownsRow w.heap.size 9 1 ov D.length (pcs t D) ∧ Below w.heap.size w wr ∧ Hid (i + 1 < E → L = D ++ spF t E n k fr)) (fun _ _ jv _ => t.size + 1 - (intOf jv).toNat)
  case atStart => exact ⟨i + 1, i + 1, t.size, [], by omega, by omega, by omega, .inr rfl, by simp, by omega, fun _ => rfl, by go_num, by go_num, World.ownsRow_nil w w.heap.size 9 1, Below.refl _ _, hide (fun h => by rw [← unhide HN, if_pos h]; rfl)⟩
  case round =>
    obtain ⟨k, fr, n, D, hfr1, hfr2, hk, hfE, hck, hnk, hD0, rfl, rfl, hown, hbel, hr⟩ := hrel
    have HO := hide hown
    have HB := hide hbel
    clear hbel
    by_cases hlt : k < E
    · have hkl : k < t.size := by omega
      have hiE : i + 1 < E := by omega
      have hr0 : L = D ++ spF t E n k fr := unhide hr hiE
      obtain ⟨m, rfl⟩ : ∃ m, n = m + 1 := ⟨n - 1, by omega⟩
      have hb := bt_at t k hkl
      have hmk := mt_bd (t := t) (j := k) (by omega)
      unfold spF at hr0
      rw [if_neg (by omega)] at hr0
      cases h1 : cO (bt t k)
      · rw [if_neg (by rw [h1]; decide)] at hr0
        have hcC : Hid (cC (t[k].toNat : Int) = 0) := hide (by rw [← hb]; simpa [cO] using h1)
        by_cases h44 : bt t k = 44
        · rw [if_pos h44] at hr0
          have hc44 : (t[k].toNat : Int) = 44 := by rw [← hb]; exact h44
          have HS : Hid (i + 1 < E → L = (D ++ [(fr, k)]) ++ spF t E m (k + 1) (k + 1)) := hide (fun _ => by rw [hr0]; simp)
          clear hb h1 h44 hr hr0
          go_wp2_with (first
            | (go_at_call 74; refine (rclosing_any _ _).mono ?_; rw [show cC 44 = 0 by decide]; rintro e w' ⟨rfl, hw⟩; replace hw := hw.symm; subst hw)
            | (at_builtin; refine wpList_append_lies _ rfl _ _ 24 rfl w.heap.size 9 i1 (.string ⟨#[]⟩) 1 16 Tryz.underlying24 hi1 hy0 hy1 hy2 rfl (by decide) _ _ _ rfl (hown.alloc _) ⟨_, 0, none⟩ 1 1 [.string (t.extract fr k)] rfl rfl ?c1 ?c2 ?c3 ?c4 ?c5 ?c6 _ rfl ?_))
          case c1 => exact World.news_of_block (heap_alloc_new _ _)
          case c2 => intro u hu; simp at hu; subst hu; rfl
          case c3 => omega
          case c4 => unfold maxLen; omega
          case c5 => omega
          case c6 => have := (unhide HB).size; simp; omega
          · intro g1 cap1 w3 hown3 hg3 hb3 hlt3
            have HO3 := hide hown3
            have HB3 := hide (((unhide HB).alloc (unhide HB).size _).grown hg3 (by have := (unhide HB).size; simp; omega) (fun j hj => (hown.lt j hj).1))
            clear hown3 hg3 hb3 hlt3 hown
            go_wp2
            go_roundw
            case rel => exact ⟨k + 1, k + 1, m, D ++ [(fr, k)], by omega, by omega, by omega, .inl (by omega), by simp; omega, by omega, fun h => by omega, by go_num, by go_num, by rw [pcs_push, List.length_append]; exact unhide HO3, unhide HB3, HS⟩
            case measure => simp [intOf]; omega
        · rw [if_neg h44] at hr0
          have hc44 : ((t[k].toNat : Int) == 44) = false := by rw [← hb]; simp [h44]
          have HS : Hid (i + 1 < E → L = D ++ spF t E m (k + 1) fr) := hide (fun _ => hr0)
          clear hb h1 h44 hr hown hr0
          go_wp2_with (go_at_call 74; refine (rclosing_any _ _).mono ?_; rw [unhide hcC]; rintro e w' ⟨rfl, hw⟩; replace hw := hw.symm; subst hw)
          go_roundw
          case rel => exact ⟨k + 1, fr, m, D, by omega, by omega, by omega, hfE, by omega, by omega, hD0, by go_num, rfl, unhide HO, unhide HB, HS⟩
          case measure => simp [intOf]; omega
      · rw [if_pos h1] at hr0
        have hcC : cC (t[k].toNat : Int) ≠ 0 := by rw [← hb]; simpa [cO] using h1
        have hcC' : (cC (t[k].toNat : Int) != 0) = true := by simp [hcC]
        have HS : Hid (i + 1 < E → L = D ++ spF t E m (mt t k + 1) fr) := hide (fun _ => hr0)
        clear hb h1 hr hown hcC hr0
        go_wp2_with (first
          | (go_at_call 74; refine (rclosing_any _ _).mono ?_; rintro e w' ⟨rfl, hw⟩; replace hw := hw.symm; subst hw)
          | (go_at_call 130; refine (match_any t _ k _ ht rfl (by omega)).mono ?_; rintro e w' ⟨rfl, hw⟩; replace hw := hw.symm; subst hw))
        go_roundw
        case rel => exact ⟨mt t k + 1, fr, m, D, by omega, by omega, by omega, hfE, by omega, by omega, hD0, by go_num, rfl, unhide HO, unhide HB, HS⟩
        case measure => simp [intOf]; omega
    · by_cases hiE : i + 1 < E
      · have hS : Hid (L = D ++ [(fr, E)]) := hide (by rw [unhide hr hiE, spF_end (by omega)])
        have hfE' : fr ≤ E := by omega
        clear hr
        go_wp2_with (at_builtin; refine wpList_append_lies _ rfl _ _ 24 rfl w.heap.size 9 i1 (.string ⟨#[]⟩) 1 16 Tryz.underlying24 hi1 hy0 hy1 hy2 rfl (by decide) _ _ _ rfl (hown.alloc _) ⟨_, 0, none⟩ 1 1 [.string (t.extract fr E)] rfl rfl ?c1 ?c2 ?c3 ?c4 ?c5 ?c6 _ rfl ?_)
        case c1 => exact World.news_of_block (heap_alloc_new _ _)
        case c2 => intro u hu; simp at hu; subst hu; rfl
        case c3 => omega
        case c4 => unfold maxLen; omega
        case c5 => omega
        case c6 => have := (unhide HB).size; simp; omega
        · intro g1 cap1 w3 hown3 hg3 hb3 hlt3
          have HB3 := hide (((unhide HB).alloc (unhide HB).size _).grown hg3 (by have := (unhide HB).size; simp; omega) (fun j hj => (hown.lt j hj).1))
          have HO3 := hide hown3
          clear hown3 hg3 hb3 hlt3 hown
          go_wp2
          go_ret
          refine ⟨_, rfl, ?_, unhide HB3⟩
          rw [unhide hS, pcs_push, List.length_append]
          exact unhide HO3
      · have hS : Hid (L = D) := hide (by rw [← unhide HN, if_neg hiE, hD0 (by omega)])
        clear hr
        go_wp2
        go_ret
        refine ⟨_, rfl, ?_, unhide HB⟩
        rw [unhide hS]
        exact unhide HO
end Go.Proofs.YtnfaiaoipeholaaGreatDoor

namespace Go.Proofs.YtnfaiaoipeholaaGreatDoor
open Go.RowKit
/-- texts as cells -/
def txs (L : List ByteArray) : List Value := L.map Value.string
theorem txs_push (L : List ByteArray) (x : ByteArray) : txs (L ++ [x]) = txs L ++ [.string x] := by simp [txs]
theorem txs_len (L : List ByteArray) : (txs L).length = L.length := by simp [txs]
/-- a slice of texts, with a block of its own -/
def OutT (L : List ByteArray) (w : World) (e : Ending) (w' : World) : Prop := ∃ v, e = .returned v ∧ w'.ownsRow w.heap.size 9 1 v L.length (txs L) ∧ Below w.heap.size w w'
theorem nmS_le (t : ByteArray) (c : Int) (i n : Nat) : (nmS t c i n).length ≤ n := by
  unfold nmS
  exact Nat.le_trans (List.length_filter_le _ _) (by simp)
section
variable {s t : ByteArray} {f : TF}
/-- the text with a name replaced -/
def wnT (t : ByteArray) (i j : Nat) : ByteArray := t.extract 0 i ++ t.extract j (mt t (j + 1) + 1) ++ t.extract (mt t (i + 1) + 1) t.size
theorem TreeOf.nam (h : TreeOf s t f) {i : Nat} (hi : i < t.size) (hn : cN (bt t i) = true) : Nam t i t.size := by
  have := TF.nam f 0 0 i h.ok h.at_ (Nat.zero_le _) (by have := h.sz; omega) hn
  rw [Nat.zero_add, ← h.sz] at this; exact this
theorem wnS_txt (h : TreeOf s t f) {i : Nat} (hi : i < t.size) (hn : cN (bt t i) = true) : (wnS t i).map strOfNums = (nmS t (bt t i) (i + 2) (mt t (i + 1) - (i + 2))).map (wnT t i) := by
  unfold wnS
  rw [List.map_map]
  refine List.map_congr_left (fun j hj => ?_)
  have hj' : i + 2 ≤ j ∧ j < i + 2 + (mt t (i + 1) - (i + 2)) ∧ bt t j = bt t i := by
    unfold nmS at hj
    simp only [List.mem_filter, List.mem_range'_1, decide_eq_true_eq] at hj
    omega
  obtain ⟨n1, n2, n3⟩ := h.nam hi hn
  obtain ⟨m1, m2, m3⟩ := h.nam (i := j) (by omega) (by rw [hj'.2.2]; exact hn)
  unfold wnT
  simp only [Function.comp]
  rw [ext_seg t (by omega), ext_seg t (by omega), ext_seg t (by omega), strs_app, strs_app, List.append_assoc]

set_option maxHeartbeats 1000000 in
set_option maxRecDepth 1000000 in
theorem within_any (hT : TreeOf s t f) (q : Int) (i : Nat) (w : World) (hq : q = i) (hi : i < t.size) (hn : cN (bt t i) = true) :
    Calls Tryz.prog 80 #[.string t, .int .i64 q] w fun e w' => OutT ((wnS t i).map strOfNums) w e w' := by
  subst hq
  rw [wnS_txt hT hi hn]
  have ht := hT.le
  obtain ⟨n1, n2, n3⟩ := hT.nam hi hn
  have HN : Hid (∀ j, j < t.size → bt t j = bt t i → bt t (j + 1 : Nat) = 40 ∧ j + 1 < mt t (j + 1) ∧ mt t (j + 1) + 1 ≤ t.size) := hide (fun j hj e => hT.nam hj (by rw [e]; exact hn))
  have hbi := bt_at t i hi
  obtain ⟨i1, hi1, hy0, hy1, hy2⟩ := info_parts Tryz.infoStr
  clear hT hn n1
  have HW : Hid (∀ j, wnT t i j = t.extract 0 i ++ t.extract j (mt t (j + 1) + 1) ++ t.extract (mt t (i + 1) + 1) t.size) := hide (fun j => rfl)
  generalize wnT t i = F at *
  generalize hE : mt t (i + 1) = E at *
  have HE := hide hE
  clear hE
  go_enter Tryz.func80, Tryz.ntmps80
  go_wp2_with (go_at_call 130; refine (match_any t _ (i + 1) _ ht (by omega) (by omega)).mono ?_; rw [unhide HE]; rintro e w' ⟨rfl, hw⟩; replace hw := hw.symm; subst hw)
  go_loopw [5, 7] (fun ov jv wr => ∃ (k : Nat) (ov' : Value), jv = .int .i64 k ∧ ov = ov' ∧ i + 2 ≤ k ∧ k ≤ t.size + 1 ∧ (k ≤ E ∨ k = i + 2) ∧ Hid (wr.ownsRow w.heap.size 9 1 ov' ((nmS t (bt t i) (i + 2) (k - (i + 2))).map F).length (txs ((nmS t (bt t i) (i + 2) (k - (i + 2))).map F))) ∧ Hid (Below w.heap.size w wr)) (fun _ jv _ => t.size + 1 - (intOf jv).toNat)
  case atStart => exact ⟨i + 2, _, by go_num, rfl, Nat.le_refl _, by omega, .inr rfl, hide (by rw [Nat.sub_self]; exact World.ownsRow_nil w w.heap.size 9 1), hide (Below.refl _ _)⟩
  case round =>
    obtain ⟨k, ov, rfl, hov, hk1, hk2, hk3, hO, hB⟩ := hrel
    replace hov := hov.symm
    subst hov
    by_cases hlt : k < E
    · have hkl : k < t.size := by omega
      have hb := bt_at t k hkl
      have hst : nmS t (bt t i) (i + 2) (k + 1 - (i + 2)) = nmS t (bt t i) (i + 2) (k - (i + 2)) ++ (if bt t k = bt t i then [k] else []) := by
        rw [show k + 1 - (i + 2) = (k - (i + 2)) + 1 by omega, nmS_add, nmS_one, show i + 2 + (k - (i + 2)) = k by omega]
      have hlen := nmS_le t (bt t i) (i + 2) (k - (i + 2))
      by_cases he : bt t k = bt t i
      · rw [if_pos he] at hst
        obtain ⟨m1, m2, m3⟩ := unhide HN k hkl he
        have he' : ((t[k].toNat : Int) == (t[i].toNat : Int)) = true := by rw [← hb, ← hbi]; simp [he]
        have hw := unhide HW k
        have HST := hide hst
        have hown := unhide hO
        generalize hM : mt t (k + 1) = M at *
        have HM := hide hM
        generalize hD : (nmS t (bt t i) (i + 2) (k - (i + 2))) = D at *
        have hDl : (D.map F).length ≤ 2000 := by rw [List.length_map]; omega
        generalize hx : F k = x at *
        have HX := hide hw
        have Hx := hide hx
        have hbl := (unhide hB).size
        have ON : Hid (∀ o : Obj, (wr.drew.drew.alloc o).ownsRow w.heap.size 9 1 ov (D.map F).length (txs (D.map F))) := hide (fun o => hown.drew.drew.alloc o)
        have NW : Hid (∀ (y : ByteArray) (j : Nat) (u : Value), [Value.string y][j]? = some u → (wr.drew.drew.alloc (.cells #[.string y] 9)).cell? ((⟨wr.heap.size, 0, none⟩ : Addr).add j) = some u) := hide (fun y => World.news_of_block (heap_alloc_new wr.drew.drew (.cells #[.string y] 9)))
        have N1 : Hid (∀ (y : ByteArray) (u : Value), u ∈ [Value.string y] → u.oneCell' = true) := hide (fun y u hu => by simp at hu; subst hu; rfl)
        have HL := hide (fun j hj => (hown.lt j hj).1)
        have f1 : i ≤ t.size := by omega
        have f2 : IntKind.i64.wrap ((M : Int) + 1) = (M : Int) + 1 := by rw [IntKind.wrap_i64]; omega
        have f3 : IntKind.i64.wrap ((E : Int) + 1) = (E : Int) + 1 := by rw [IntKind.wrap_i64]; omega
        have f4 : 0 ≤ (M : Int) + 1 ∧ (M : Int) + 1 ≤ (t.size : Int) := by omega
        have f5 : (k : Int) ≤ (M : Int) + 1 := by omega
        have f6 : 0 ≤ (E : Int) + 1 ∧ (E : Int) + 1 ≤ (t.size : Int) := by omega
        have f7 : ¬ 9223372036854775807 < i + (M + 1 - k) := by omega
        have f8 : ¬ 9223372036854775807 < i + (M + 1 - k) + (t.size - (E + 1)) := by omega
        clear hst hw hb he hM hD m1 hx hown hO
        go_wp2_with fail
        go_region
        go_wp2_with (first
          | (go_at_call 130; refine (match_any t _ (k + 1) _ ht (by omega) (by omega)).mono ?_; rw [unhide HM]; rintro e w' ⟨rfl, hw⟩; replace hw := hw.symm; subst hw)
          | fail)
        go_region_law (refine step_append_lies _ rfl _ _ 24 rfl w.heap.size 9 i1 _ 1 16 Tryz.underlying24 hi1 hy0 hy1 hy2 rfl (by decide) ov (D.map F).length (txs (D.map F)) (by simp [Act.eval]) (unhide ON _) ⟨wr.heap.size, 0, none⟩ 1 1 _ (by simp [Act.eval]) rfl (unhide NW _) (unhide N1 _) (by omega) (by unfold maxLen; omega) (by omega) (by simp; omega) _ rfl ?_; intro g1 cap1 w3 hown3 hg3 hb3 hlt3)
        have HB3 := hide (((unhide hB).drew.drew.alloc hbl _).grown hg3 (by simp; omega) (unhide HL))
        have HO3 : Hid (w3.ownsRow w.heap.size 9 1 (.slice (some ⟨g1, 0, none⟩) (D.length + 1) cap1) ((nmS t (bt t i) (i + 2) (k + 1 - (i + 2))).map F).length (txs ((nmS t (bt t i) (i + 2) (k + 1 - (i + 2))).map F))) := hide (by
          rw [unhide HST, List.map_append, List.length_append, List.map_cons, List.map_nil, txs_push, unhide Hx, unhide HX]
          rw [List.length_map] at hown3 ⊢
          exact hown3)
        clear hown3 hg3 hb3 hlt3 ON NW N1 HL hB
        go_wp2
        go_roundw
        case rel => exact ⟨k + 1, _, by go_num, rfl, by omega, by omega, .inl (by omega), HO3, HB3⟩
        case measure => simp [intOf]; omega
      · rw [if_neg he, List.append_nil] at hst
        have he' : ((t[k].toNat : Int) == (t[i].toNat : Int)) = false := by rw [← hb, ← hbi]; simp [he]
        have hO2 : Hid (wr.ownsRow w.heap.size 9 1 ov ((nmS t (bt t i) (i + 2) (k + 1 - (i + 2))).map F).length (txs ((nmS t (bt t i) (i + 2) (k + 1 - (i + 2))).map F))) := hide (by rw [hst]; exact unhide hO)
        clear hst hb he hO
        go_wp2_with fail
        go_region
        go_wp2
        go_roundw
        case rel => exact ⟨k + 1, _, by go_num, rfl, by omega, by omega, .inl (by omega), hide (unhide hO2).drew, hide (unhide hB).drew⟩
        case measure => simp [intOf]; omega
    · have hfin : k - (i + 2) = E - (i + 2) := by omega
      rw [hfin] at hO
      go_wp2
      go_ret
      exact ⟨_, rfl, unhide hO, unhide hB⟩
end
end Go.Proofs.YtnfaiaoipeholaaGreatDoor
