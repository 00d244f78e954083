/- The program's Reduce. -/
import Derived.Test.YtnfaiaoipeholaaWnPwk
import Derived.Test.YtnfaiaoipeholaaPHeight
import Derived.Lib.ConvBytes
namespace Go.Proofs.Ytnfaiaoipeholaa
open Go.RowKit
theorem results_tmp4 {fn : Func} {t u v x : Tmp} (h : fn.results = #[.tmp t, .tmp u, .tmp v, .tmp x]) (tmps : Array Value) (P : Program) (w : World) :
    (results fn tmps).run P w = .ok (.tuple #[tmps.getD t undef, tmps.getD u undef, tmps.getD v undef, tmps.getD x undef]) w := by
  simp [results, h]
theorem bytc_size (w : World) (e : TypeId) (s : ByteArray) : (Go.Lib.bytesCells w e s).size = grownCap w s.size 0 e := by
  have := grownCap_ge w s.size 0 e
  unfold Go.Lib.bytesCells
  rw [Array.size_append, Array.size_map, Array.size_replicate]
  show s.size + _ = _
  omega
/-- a text's bytes in a row of their own -/
theorem RowB.conv (W : World) (t : ByteArray) (ht : t.size ≤ 2000) : RowB (Go.Lib.bytesWorld W 5 t) W.heap.size (W.heap.size + 1) (.slice (some ⟨W.heap.size, 0, none⟩) t.size (grownCap W t.size 0 5)) (seg t 0 t.size) := by
  have hn := Go.Lib.bytesWorld_at_new W 5 t
  have hz := bytc_size W 5 t
  have hge := grownCap_ge W t.size 0 5
  refine ⟨W.heap.size, grownCap W t.size 0 5, by rw [seg_size], Nat.le_refl _, by omega, by rw [Go.Lib.bytesWorld_size]; omega, by rw [seg_size]; exact hge, grownCap_le_maxLen W t.size 0 5 (by unfold maxLen; omega), fun j hj => ?_, fun j hj => ⟨?_, ?_⟩⟩
  · rw [seg_size] at hj
    rw [Go.Lib.bytesWorld_cell W 5 t j hj, ← bytc_ubs]
    unfold byteCells
    have hl : j < t.data.toList.length := by rw [Array.length_toList]; exact hj
    rw [List.getElem?_map, List.getElem?_eq_getElem hl, List.getD_eq_getElem?_getD, List.getElem?_eq_getElem hl]
    rfl
  · simp only [World.cell?, hn]
    rw [Array.getElem?_eq_getElem (by rw [hz]; exact hj)]; rfl
  · simp only [World.frozen?, hn]
    simp; omega
/-- how long the tree is that a walk is at -/
def stz (w : World) (b : Nat) : Nat := match w.cell? ⟨b, 4, none⟩ with
  | some (.string u) => u.size + 1
  | _ => 1
theorem wayL_push (u : ByteArray) : ∀ (r : List ByteArray) (t : ByteArray), wayL (t :: (r ++ [u])) = wayL (t :: r) ++ (10 :: seg u 0 u.size)
  | [], t => by simp [wayL]
  | x :: r, t => by
    have := wayL_push u r x
    simp only [List.cons_append, wayL] at this ⊢
    rw [this]; simp
theorem lastT_push (u : ByteArray) : ∀ (r : List ByteArray) (t : ByteArray), lastT t (r ++ [u]) = u
  | [], t => rfl
  | x :: r, t => by simp only [List.cons_append, lastT]; exact lastT_push u r x
/-- the walk, while it goes on -/
structure GoI (s t c : ByteArray) (bd : Nat) (B b : Nat) (w wr : World) (u : ByteArray) (f : TF) (r : List ByteArray) (p a m : Nat) (v : Value) : Prop where
  mem : Wk wr B b c bd a (wayL (t :: r)) u p v
  tree : TreeOf s u f
  goes : gw c bd (t.size + 1) t 0 0 = (r ++ (gw c bd m u p a).1, (gw c bd m u p a).2)
  fuel : u.size < m
  le : a ≤ bd
  bel : Below w.heap.size w wr
  len : (wayL (t :: r)).length ≤ (r.length + 1) * 2001
  few : r.length + u.size ≤ t.size
/-- .. and when it has ended -/
structure EndI (t c : ByteArray) (bd : Nat) (B b : Nat) (w wr : World) (u : ByteArray) (r : List ByteArray) (p a y : Nat) (v : Value) : Prop where
  mem : Wk wr B b c bd a (wayL (t :: r)) u p v
  goes : gw c bd (t.size + 1) t 0 0 = (r, a, y)
  bel : Below w.heap.size w wr
  ne : y ≠ 0
section
variable {s t c : ByteArray}
theorem rdc_yes {b : Int} (h : rfs s t c b = 0) : rdc s t c b = (strOfNums (wayL (t :: (gw c b.toNat (t.size + 1) t 0 0).1)), (gw c b.toNat (t.size + 1) t 0 0).2.1, (gw c b.toNat (t.size + 1) t 0 0).2.2, 0) := by
  unfold rdc; rw [if_neg (by simp [h])]
theorem RowB.str {w : World} {B b : Nat} {v : Value} {L : List Int} (h : RowB w B b v L) : ∃ g cap, v = .slice (some ⟨g, 0, none⟩) L.length cap ∧ (convert 45 9 (.slice (some ⟨g, 0, none⟩) L.length cap)).run Try.prog w = .ok (.string (strOfNums L)) w := by
  obtain ⟨g, cap, h1, _, _, _, _, _, h7, _⟩ := h
  refine ⟨g, cap, h1, run_convert_bytes_arg _ 45 5 Try.underlying45 Try.underlying5 g 0 L.length cap L rfl (fun i hi => ?_) _ Try.underlying9⟩
  rw [Nat.zero_add, h7 i hi]
  unfold ubs
  rw [List.getElem?_map, List.getElem?_eq_getElem hi, List.getD_eq_getElem?_getD, List.getElem?_eq_getElem hi]; rfl
theorem GoI.start {bd : Nat} {w w3 : World} {f : TF} (hf : TreeOf s t f) (hb : Below w.heap.size w w3) :
    GoI s t c bd w.heap.size (w3.heap.size + 1) w ((Go.Lib.bytesWorld w3 5 t).alloc (.cells #[.string c, .int .i64 (bd : Int), .int .i64 0, .slice (some ⟨w3.heap.size, 0, none⟩) t.size (grownCap w3 t.size 0 5), .string t, .int .i64 0] 71)) t f [] 0 0 (t.size + 1) (.slice (some ⟨w3.heap.size, 0, none⟩) t.size (grownCap w3 t.size 0 5)) := by
  have hz := hf.le
  have hW : (Go.Lib.bytesWorld w3 5 t).heap.size = w3.heap.size + 1 := Go.Lib.bytesWorld_size w3 5 t
  have hB3 : Below w.heap.size w (Go.Lib.bytesWorld w3 5 t) := ⟨hb.os, hb.tape, hb.output, by have := hb.size; omega, fun k hk => (Go.Lib.bytesWorld_at_old w3 5 t k (Nat.lt_of_lt_of_le hk hb.size)).trans (hb.block k hk)⟩
  have hr := RowB.conv w3 t hz
  have hrow := World.rowIs_alloc (Go.Lib.bytesWorld w3 5 t) #[.string c, .int .i64 (bd : Int), .int .i64 0, .slice (some ⟨w3.heap.size, 0, none⟩) t.size (grownCap w3 t.size 0 5), .string t, .int .i64 0] 71 (wkC c bd 0 (.slice (some ⟨w3.heap.size, 0, none⟩) t.size (grownCap w3 t.size 0 5)) t 0) (fun i hi => by
    match i, hi with
    | 0, _ => rfl
    | 1, _ => rfl
    | 2, _ => rfl
    | 3, _ => rfl
    | 4, _ => rfl
    | 5, _ => rfl)
  rw [hW] at hrow
  refine ⟨⟨hrow, ?_, by have := hb.size; omega⟩, hf, by simp, by omega, by omega, hB3.alloc (by have := hb.size; omega) _, by simp [wayL, seg_size]; omega, by simp⟩
  have h2 := hr.same (w' := (Go.Lib.bytesWorld w3 5 t).alloc (.cells #[.string c, .int .i64 (bd : Int), .int .i64 0, .slice (some ⟨w3.heap.size, 0, none⟩) t.size (grownCap w3 t.size 0 5), .string t, .int .i64 0] 71)) (by simp) (fun k hk _ => Below.heap_alloc _ _ k hk)
  obtain ⟨g, cap, a1, a2, a3⟩ := h2
  exact ⟨g, cap, a1, by have := hb.size; omega, a3⟩
theorem GoI.next {bd B b p a m : Nat} {w wr w' : World} {u : ByteArray} {f : TF} {r : List ByteArray} {v v' : Value} (hk : (chk s).1 = 0) (h : GoI s t c bd B b w wr u f r p a m v) (h0 : (wk c u bd p a).1 = 0) (hb : Below w.heap.size w w') (hw : Wk w' B b c bd (wk c u bd p a).2.2 (wayL (t :: r) ++ (10 :: seg (qB u (wk c u bd p a).2.1) 0 (qB u (wk c u bd p a).2.1).size)) (qB u (wk c u bd p a).2.1) (wk c u bd p a).2.1.1 v') :
    ∃ f', GoI s t c bd B b w w' (qB u (wk c u bd p a).2.1) f' (r ++ [qB u (wk c u bd p a).2.1]) (wk c u bd p a).2.1.1 (wk c u bd p a).2.2 (m - 1) v' ∧ (qB u (wk c u bd p a).2.1).size < u.size := by
  obtain ⟨r1, r2, r3, r4, r5, r6, r7⟩ := wk_ok (c := c) h.tree (b := bd) (p := p) (a := a) h.le
  obtain ⟨q1, q2⟩ := r5 h0
  obtain ⟨st, f', hf'⟩ := stp_of hk h.tree q1
  have hsz := st.sz
  have hfu := h.fuel
  have hfe := h.few
  have hle := hf'.le
  obtain ⟨m', rfl⟩ : ∃ m', m = m' + 1 := ⟨m - 1, by omega⟩
  refine ⟨f', ⟨by rw [wayL_push]; exact hw, hf', ?_, by simp; omega, r1, hb, ?_, by simp; omega⟩, hsz⟩
  · rw [h.goes]
    conv => lhs; unfold gw
    rw [if_pos h0]
    simp
  · have hl := h.len
    rw [wayL_push, List.length_append, List.length_cons, seg_size, List.length_append, List.length_cons, List.length_nil]
    have e : (r.length + (0 + 1) + 1) * 2001 = (r.length + 1) * 2001 + 2001 := by omega
    omega
theorem GoI.done {bd B b p a m : Nat} {w wr w' : World} {u : ByteArray} {f : TF} {r : List ByteArray} {v v' : Value} (h : GoI s t c bd B b w wr u f r p a m v) (h0 : (wk c u bd p a).1 ≠ 0) (hb : Below w.heap.size w w') (hw : Wk w' B b c bd (wk c u bd p a).2.2 (wayL (t :: r)) u p v') :
    EndI t c bd B b w w' u r p (wk c u bd p a).2.2 (wk c u bd p a).1 v' := by
  have hfu := h.fuel
  obtain ⟨m', rfl⟩ : ∃ m', m = m' + 1 := ⟨m - 1, by omega⟩
  refine ⟨hw, ?_, hb, h0⟩
  rw [h.goes]
  conv => lhs; unfold gw
  rw [if_neg h0]
  simp
theorem ret_four {a b : ByteArray} {k l m : IntKind} {x x' y y' z z' : Int} (h : a = b) (h1 : x = x') (h2 : y = y') (h3 : z = z') : Ending.returned (.tuple #[.string a, .int k x, .int l y, .int m z]) = .returned (.tuple #[.string b, .int k x', .int l y', .int m z']) := by rw [h, h1, h2, h3]
/-- what Reduce answers -/
def OutRd (s t c : ByteArray) (bud : Int) (w : World) (e : Ending) (w' : World) : Prop :=
  e = .returned (.tuple #[.string (rdc s t c bud).1, .int .i64 ((rdc s t c bud).2.1 : Int), .int .i64 ((rdc s t c bud).2.2.1 : Int), .int .i64 (rdc s t c bud).2.2.2]) ∧ Below w.heap.size w w'
theorem OutRd.no {bud : Int} {w w' : World} {x : Int} (h : rfs s t c bud = x) (hx : x ≠ 0) (hb : Below w.heap.size w w') : OutRd s t c bud w (.returned (.tuple #[.string ⟨#[]⟩, .int .i64 0, .int .i64 0, .int .i64 x])) w' := by
  unfold OutRd
  rw [rdc_no (by rw [h]; exact hx), h]
  exact ⟨rfl, hb⟩
set_option maxHeartbeats 1000000 in
set_option maxRecDepth 1000000 in
theorem rReduce_any (hk : (chk s).1 = 0) (w : World) (ht : t.size ≤ maxLen) (hc : c.size ≤ maxLen) (bud : Int) : Calls Try.prog 26 #[.string s, .string t, .string c, .int .i64 bud] w (OutRd s t c bud w) := by
  have G := hide (gram_of hk)
  have hwh := hgt_good (t := t) hk
  by_cases h1 : (hgt s t).2 = 0
  · obtain ⟨_, f, n, hf, hn⟩ := hgt_tree h1
    have hz := hf.le
    have HW : Hid (wh s t = ((n : Int), 0)) := hide (by rw [← hwh, hn])
    have hwz := wd_size t
    clear hwh
    cases h2 : cnd c
    · have HR : Hid (rfs s t c bud = 14) := hide (by unfold rfs; rw [if_neg (by simp [h1]), if_pos h2])
      have H2 := hide h2
      have HO : Hid (∀ w', Below w.heap.size w w' → OutRd s t c bud w (.returned (.tuple #[.string ⟨#[]⟩, .int .i64 0, .int .i64 0, .int .i64 14])) w') := hide (fun w' h => OutRd.no (unhide HR) (by decide) h)
      clear h1 h2 hf hn HR
      generalize OutRd s t c bud w = Post at *
      go_enter Try.func26, Try.ntmps26
      go_wp2_with (first
        | (go_at_call 22; refine (tHeight_any (unhide G) _ ht).mono ?_; rw [unhide HW]; rintro e w2 ⟨rfl, hw⟩; replace hw := hw.symm; subst hw)
        | (go_at_call 44; refine (isCondition_any _ _ hc).mono ?_; rw [unhide H2]; rintro e w2 ⟨rfl, hw⟩; replace hw := hw.symm; subst hw))
      refine bodyPost_ret (results_tmp4 rfl _ _ _) rfl ?_
      exact unhide HO _ (Below.refl _ _)
    · have hc3 : c.size ≤ 300 := by
        unfold cnd at h2
        simp only [Bool.and_eq_true, decide_eq_true_eq] at h2
        exact h2.1
      have H2 := hide h2
      by_cases h3 : bud < 0 ∨ 9999 < bud
      · have HR : Hid (rfs s t c bud = 9) := hide (by unfold rfs; rw [if_neg (by simp [h1]), if_neg (by simp [h2]), if_pos h3])
        have HO : Hid (∀ w', Below w.heap.size w w' → OutRd s t c bud w (.returned (.tuple #[.string ⟨#[]⟩, .int .i64 0, .int .i64 0, .int .i64 9])) w') := hide (fun w' h => OutRd.no (unhide HR) (by decide) h)
        clear h1 h2 hf hn HR
        generalize OutRd s t c bud w = Post at *
        go_enter Try.func26, Try.ntmps26
        go_wp2_with (first
          | (go_at_call 22; refine (tHeight_any (unhide G) _ ht).mono ?_; rw [unhide HW]; rintro e w2 ⟨rfl, hw⟩; replace hw := hw.symm; subst hw)
          | (go_at_call 44; refine (isCondition_any _ _ hc).mono ?_; rw [unhide H2]; rintro e w2 ⟨rfl, hw⟩; replace hw := hw.symm; subst hw))
        all_goals first
          | (refine bodyPost_ret (results_tmp4 rfl _ _ _) rfl ?_; exact unhide HO _ (Below.refl _ _))
          | (exfalso; omega)
      · obtain ⟨bd, rfl⟩ : ∃ bd : Nat, bud = bd := ⟨bud.toNat, by omega⟩
        have hbd : bd ≤ 9999 := by omega
        cases h4 : hld c (wd t)
        · have HR : Hid (rfs s t c bd = 15) := hide (by unfold rfs; rw [if_neg (by simp [h1]), if_neg (by simp [h2]), if_neg h3, if_pos h4])
          have HO : Hid (∀ w', Below w.heap.size w w' → OutRd s t c bd w (.returned (.tuple #[.string ⟨#[]⟩, .int .i64 0, .int .i64 0, .int .i64 15])) w') := hide (fun w' h => OutRd.no (unhide HR) (by decide) h)
          have H4 := hide h4
          clear h1 h2 hf hn HR h3 h4
          generalize OutRd s t c bd w = Post at *
          go_enter Try.func26, Try.ntmps26
          go_wp2_with (first
            | (go_at_call 22; refine (tHeight_any (unhide G) _ ht).mono ?_; rw [unhide HW]; rintro e w2 ⟨rfl, hw⟩; replace hw := hw.symm; subst hw)
            | (go_at_call 44; refine (isCondition_any _ _ hc).mono ?_; rw [unhide H2]; rintro e w2 ⟨rfl, hw⟩; replace hw := hw.symm; subst hw)
            | (go_at_call 45; refine (treeWord_any t _ (by omega)).mono ?_; rintro e w3 ⟨rfl, hb3⟩; replace hb3 := hide hb3)
            | (go_at_call 46; refine (holds_any _ _ _ hc3 (by omega)).mono ?_; rw [unhide H4]; rintro e w2 ⟨rfl, hw⟩; replace hw := hw.symm; subst hw))
          refine bodyPost_ret (results_tmp4 rfl _ _ _) rfl ?_
          exact unhide HO _ (unhide hb3)
        · have H4 := hide h4
          have HR : Hid (rfs s t c bd = 0) := hide (by unfold rfs; rw [if_neg (by simp [h1]), if_neg (by simp [h2]), if_neg h3, if_neg (by simp [h4])])
          have HF := hide hf
          clear h1 h2 hf hn h3 h4
          have hcv : ∀ W : World, (convert 9 45 (.string t)).run Try.prog W = .ok (.slice (some ⟨W.heap.size, 0, none⟩) t.size (grownCap W t.size 0 5)) (Go.Lib.bytesWorld W 5 t) := fun W => Go.Lib.run_convert_string_bytes W 9 45 5 t Try.underlying9 Try.underlying45 Try.underlying5
          go_enter Try.func26, Try.ntmps26
          go_wp2_with (first
            | (go_at_call 22; refine (tHeight_any (unhide G) _ ht).mono ?_; rw [unhide HW]; rintro e w2 ⟨rfl, hw⟩; replace hw := hw.symm; subst hw)
            | (go_at_call 44; refine (isCondition_any _ _ hc).mono ?_; rw [unhide H2]; rintro e w2 ⟨rfl, hw⟩; replace hw := hw.symm; subst hw)
            | (go_at_call 45; refine (treeWord_any t _ (by omega)).mono ?_; rintro e w3 ⟨rfl, hb3⟩; replace hb3 := hide hb3)
            | (go_at_call 46; refine (holds_any _ _ _ hc3 (by omega)).mono ?_; rw [unhide H4]; rintro e w2 ⟨rfl, hw⟩; replace hw := hw.symm; subst hw)
            | fail)
          have HS := hide (GoI.start (c := c) (bd := bd) (unhide HF) (unhide hb3))
          rw [Go.Lib.bytesWorld_size]
          have hlb : w.heap.size ≤ w3.heap.size + 1 := by have := (unhide hb3).size; omega
          generalize hw4 : World.alloc _ _ = w4 at *
          generalize w3.heap.size + 1 = b at *
          clear hw4 hcv hb3
          go_loopw [16] (fun iv wr => ∃ (u : ByteArray) (r : List ByteArray) (p a y : Nat) (v : Value), iv = .int .i64 (y : Int) ∧ ((y = 0 ∧ ∃ f m, Hid (GoI s t c bd w.heap.size b w wr u f r p a m v)) ∨ Hid (EndI t c bd w.heap.size b w wr u r p a y v))) (fun iv wr => if intOf iv = 0 then stz wr b else 0)
          case atStart => exact ⟨t, [], 0, 0, 0, _, rfl, .inl ⟨rfl, f, t.size + 1, HS⟩⟩
          case round =>
            obtain ⟨u, r, p, a, y, v, rfl, hI⟩ := hrel
            clear HS
            rcases hI with ⟨rfl, f', m, hI⟩ | hI
            · have d4 : wr.cell? ⟨b, 4, none⟩ = some (.string u) := (unhide hI).mem.row.cell (i := 4) (by omega)
              have hst : stz wr b = u.size + 1 := by unfold stz; rw [d4]
              have hr2 : (r.length + 1) * 2001 ≤ 2001 * 2001 := Nat.mul_le_mul_right _ (by have := (unhide hI).few; omega)
              go_wp2_with fail
              refine (walkOn_any (unhide hI).tree (unhide hI).mem hc3 (by have := (unhide hI).len; omega) hbd (unhide hI).le).mono ?_
              rintro e w5 ⟨rfl, hb5, hw5⟩
              have hB5 := (unhide hI).bel.trans hb5
              by_cases h0 : (wk c u bd p a).1 = 0
              · rw [if_pos h0] at hw5
                obtain ⟨v5, hw5⟩ := hw5
                obtain ⟨f5, hn5, hlt5⟩ := (unhide hI).next hk h0 hB5 hw5
                have d5 : w5.cell? ⟨b, 4, none⟩ = some (.string (qB u (wk c u bd p a).2.1)) := hw5.row.cell (i := 4) (by omega)
                have hs5 : stz w5 b = (qB u (wk c u bd p a).2.1).size + 1 := by unfold stz; rw [d5]
                have HN := hide hn5
                clear hn5 hw5
                rw [h0]
                clear d5 d4 hB5 hb5 hI h0
                generalize (wk c u bd p a).2.1.1 = p5 at *
                generalize (wk c u bd p a).2.2 = a5 at *
                generalize qB u (wk c u bd p a).2.1 = u5 at *
                go_wp2
                go_roundw
                case rel => exact ⟨_, _, _, _, 0, _, rfl, .inl ⟨rfl, _, _, HN⟩⟩
                case measure => simp [intOf]; omega
              · rw [if_neg h0] at hw5
                obtain ⟨v5, hw5⟩ := hw5
                have HE := hide ((unhide hI).done h0 hB5 hw5)
                clear hw5 hB5 hb5 hI d4
                generalize (wk c u bd p a).2.2 = a5 at *
                generalize (wk c u bd p a).1 = y5 at *
                go_wp2
                go_roundw
                case rel => exact ⟨_, _, _, _, y5, _, rfl, .inr HE⟩
                case measure => simp [intOf, h0]; omega
            · have hy := (unhide hI).ne
              have hy' : ((y : Int) == 0) = false := by simp [hy]
              have d2 : wr.cell? ⟨b, 2, none⟩ = some (.int .i64 (a : Int)) := (unhide hI).mem.row.cell (i := 2) (by omega)
              have d3 : wr.cell? ⟨b, 3, none⟩ = some v := (unhide hI).mem.row.cell (i := 3) (by omega)
              obtain ⟨g, cap, rfl, hcs⟩ := (unhide hI).mem.own.str
              have HRD : Hid (rdc s t c bd = (strOfNums (wayL (t :: r)), a, y, 0)) := hide (by rw [rdc_yes (unhide HR), show (bd : Int).toNat = bd by omega, (unhide hI).goes])
              have HBE := hide (unhide hI).bel
              have hcd : (convert 45 9 (.slice (some ⟨g, 0, none⟩) (wayL (t :: r)).length cap)).run Try.prog wr.drew = .ok (.string (strOfNums (wayL (t :: r)))) wr.drew := by
                obtain ⟨g', cap', e1, e2⟩ := ((unhide hI).mem.own.same (w' := wr.drew) (Nat.le_refl _) (fun _ _ _ => rfl)).str
                cases e1
                exact e2
              clear hI hcs
              generalize hLL : (wayL (t :: r)).length = LL at *
              go_wp2_with fail
              go_region_held (fun w' => w'.cell? ⟨b, 2, none⟩ = some (.int .i64 (a : Int)) ∧ w'.cell? ⟨b, 3, none⟩ = some (.slice (some ⟨g, 0, none⟩) LL cap)) (exact ⟨d2, d3⟩) (fail)
              go_wp2
              refine bodyPost_ret (results_tmp4 rfl _ _ _) rfl ?_
              unfold OutRd
              rw [unhide HRD]
              exact ⟨rfl, (unhide HBE).drew⟩
  · have HR : Hid (rfs s t c bud = (hgt s t).2) := hide (by unfold rfs; rw [if_pos h1])
    have HO : Hid (∀ w', Below w.heap.size w w' → OutRd s t c bud w (.returned (.tuple #[.string ⟨#[]⟩, .int .i64 0, .int .i64 0, .int .i64 (hgt s t).2])) w') := hide (fun w' h => OutRd.no (unhide HR) h1 h)
    rw [hwh] at HO h1
    have h1' : ((wh s t).2 != 0) = true := by simp [h1]
    clear hwh HR h1
    generalize OutRd s t c bud w = Post at *
    go_enter Try.func26, Try.ntmps26
    go_wp2_with (first
      | (go_at_call 22; refine (tHeight_any (unhide G) _ ht).mono ?_; rintro e w2 ⟨rfl, hw⟩; replace hw := hw.symm; subst hw))
    refine bodyPost_ret (results_tmp4 rfl _ _ _) rfl ?_
    exact unhide HO _ (Below.refl _ _)
theorem rdc_bad {bud : Int} (h : (chk s).1 ≠ 0) : rdc s t c bud = (⟨#[]⟩, 0, 0, (chk s).1) := by
  have e : rfs s t c bud = (chk s).1 := by
    unfold rfs
    rw [hgt_bad h, if_pos h]
  rw [rdc_no (by rw [e]; exact h), e]
  rfl
set_option maxHeartbeats 1000000 in
theorem reduce_any (w : World) (hs : s.size ≤ maxLen) (ht : t.size ≤ maxLen) (hc : c.size ≤ maxLen) (bud : Int) : Calls Try.prog 14 #[.string s, .string t, .string c, .int .i64 bud] w (OutRd s t c bud w) := by
  by_cases h : (chk s).1 = 0
  · have h' : ((chk s).1 != 0) = false := by simp [h]
    have HO : Hid (∀ w1 e w2, Below w.heap.size w w1 → OutRd s t c bud w1 e w2 → OutRd s t c bud w e w2) := hide (fun w1 e w2 h1 h2 => ⟨h2.1, h1.trans (h2.2.mono h1.size)⟩)
    have HR : Hid (∀ w1, Calls Try.prog 26 #[.string s, .string t, .string c, .int .i64 bud] w1 (OutRd s t c bud w1)) := hide (fun w1 => rReduce_any h w1 ht hc bud)
    have HA : Hid (∀ w1 e w2, OutRd s t c bud w1 e w2 → ∃ x a y z, e = .returned (.tuple #[.string x, .int .i64 a, .int .i64 y, .int .i64 z])) := hide (fun w1 e w2 h => ⟨_, _, _, _, h.1⟩)
    clear h
    generalize OutRd s t c bud = Post at *
    go_enter Try.func14, Try.ntmps14
    go_wp2_with (first
      | (go_at_call 21; refine (rcheck_any _ _ hs).mono ?_; rintro e w1 ⟨rfl, hb1⟩; replace hb1 := hide hb1)
      | fail)
    refine (unhide HR w1).mono ?_
    intro e w2 hp
    obtain ⟨x, a, y, z, rfl⟩ := unhide HA _ _ _ hp
    have HP := hide (unhide HO _ _ _ (unhide hb1) hp)
    clear hp HA HR HO
    go_wp2
    refine bodyPost_ret (results_tmp4 rfl _ _ _) rfl ?_
    exact unhide HP
  · have HO : Hid (∀ w', Below w.heap.size w w' → OutRd s t c bud w (.returned (.tuple #[.string ⟨#[]⟩, .int .i64 0, .int .i64 0, .int .i64 (chk s).1])) w') := hide (fun w' hb => by unfold OutRd; rw [rdc_bad h]; exact ⟨rfl, hb⟩)
    have h' : ((chk s).1 != 0) = true := by simp [h]
    clear h
    generalize OutRd s t c bud w = Post at *
    go_enter Try.func14, Try.ntmps14
    go_wp2_with (first
      | (go_at_call 21; refine (rcheck_any _ _ hs).mono ?_; rintro e w1 ⟨rfl, hb1⟩; replace hb1 := hide hb1))
    refine bodyPost_ret (results_tmp4 rfl _ _ _) rfl ?_
    exact unhide HO _ (unhide hb1)
end
end Go.Proofs.Ytnfaiaoipeholaa
