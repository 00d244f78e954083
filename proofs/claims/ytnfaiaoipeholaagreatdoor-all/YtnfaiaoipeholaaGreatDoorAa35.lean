/- PFind PFind2 PFind3 PSteps PWalk PWalk2 -/
import Derived.Test.YtnfaiaoipeholaaGreatDoorAa34
import Derived.Deep.RegionLaw
import Derived.Lib.AppendStr
namespace Go.Proofs.YtnfaiaoipeholaaGreatDoor
open Go.RowKit
theorem Tryz.infoStep : (Tryz.prog.info? 145).map (fun i => (i.zero, i.size, i.bytes)) = some (some (.agg #[.int .i64 0, .int .i64 0, .int .i64 0, .int .i64 0]), 4, 32) := by kernel_rfl
/-- a step as cells -/
def qcL (q : Qd) : List Value := [.int .i64 (q.1 : Int), .int .i64 (q.2.1 : Int), .int .i64 (q.2.2.1 : Int), .int .i64 (q.2.2.2 : Int)]
def qcs (Q : List Qd) : List Value := Q.flatMap qcL
theorem qcs_push (Q : List Qd) (q : Qd) : qcs (Q ++ [q]) = qcs Q ++ qcL q := by simp [qcs]
/-- a finder in memory -/
structure Fd (w : World) (b g : Nat) (t : ByteArray) (Q : List Qd) : Prop where
  lt : b < w.heap.size
  gb : g < b
  tre : w.cell? ⟨b, 0, none⟩ = some (.string t)
  ens : w.cell? ⟨b, 1, none⟩ = some (.slice (some ⟨g, 0, none⟩) t.size t.size)
  row : w.rowIs g 3 t.size (enF (ensL t))
  stp : ∃ v, w.cell? ⟨b, 2, none⟩ = some v ∧ w.ownsRow (b + 1) 145 4 v Q.length (qcs Q)
  stf : w.frozen? ⟨b, 2, none⟩ = false
theorem enF_at {s t : ByteArray} {f : TF} (h : TreeOf s t f) {k : Nat} (hk : k < t.size) : enF (ensL t) k = .int .i64 ((en t k : Nat) : Int) := by
  unfold enF
  rw [List.getD_eq_getElem?_getD, ensL_get h hk]; rfl
section
variable {w : World} {b g : Nat} {s t : ByteArray} {Q : List Qd} {f : TF}
theorem Fd.below {w' : World} (h : Fd w b g t Q) (hb : Below w.heap.size w w') : Fd w' b g t Q := by
  obtain ⟨v, h1, h2⟩ := h.stp
  have hg : g < w.heap.size := by have := h.lt; have := h.gb; omega
  refine ⟨Nat.lt_of_lt_of_le h.lt hb.size, h.gb, (hb.cell (p := ⟨b, 0, none⟩) h.lt).trans h.tre, (hb.cell (p := ⟨b, 1, none⟩) h.lt).trans h.ens, h.row.of_block (hb.block g hg), ⟨v, (hb.cell (p := ⟨b, 2, none⟩) h.lt).trans h1, ?_⟩, (hb.frozen (p := ⟨b, 2, none⟩) h.lt).trans h.stf⟩
  exact h2.kept (row := none) ⟨hb.os, hb.tape, hb.output, hb.size, fun k hk _ => hb.block k hk⟩ (by
    cases hv : v.ownBlock with
    | none => exact .inl rfl
    | some k => exact .inr (fun e => by cases e))

set_option maxHeartbeats 400000 in
theorem fend_any (hT : TreeOf s t f) (hm : Fd w b g t Q) (q : Int) (k : Nat) (hq : q = k) : Calls Tryz.prog 176 #[.pointer (some ⟨b, 0, none⟩), .int .i64 q] w fun e w' => e = .returned (.int .i64 (enP t k)) ∧ w' = w := by
  subst hq
  have h0 := hm.tre
  have h1 := hm.ens
  have hz := hT.le
  generalize hR : enP t k = R
  unfold enP at hR
  by_cases hk : k < t.size
  · rw [if_pos hk] at hR
    have h2 := hm.row.cell hk
    rw [enF_at hT hk, hR] at h2
    clear hm hR
    go_enter Tryz.func176, Tryz.ntmps176
    go_wp2
    all_goals (go_ret; exact ⟨rfl, rfl⟩)
  · rw [if_neg hk] at hR
    subst hR
    clear hm
    go_enter Tryz.func176, Tryz.ntmps176
    go_wp2
    all_goals (go_ret; exact ⟨rfl, rfl⟩)

set_option maxHeartbeats 400000 in
theorem cut_any (a c : Int) (w : World) : Calls Tryz.prog 178 #[.int .i64 a, .int .i64 c] w fun e w' => e = .returned (.agg #[.int .i64 a, .int .i64 c, .int .i64 c, .int .i64 c]) ∧ Below w.heap.size w w' := by
  go_enter Tryz.func178, Tryz.ntmps178
  go_wp2
  refine bodyPost_ret (v := .agg #[.int .i64 a, .int .i64 c, .int .i64 c, .int .i64 c]) (results_cell_mid Tryz.results178 _ _ w.heap.size [.int .i64 a, .int .i64 c, .int .i64 c, .int .i64 c] _ rfl (range_alloc w _ _) Tryz.underlying145 rfl ?_) rfl ⟨rfl, (Below.refl _ _).alloc (Nat.le_refl _) _⟩
  obtain ⟨i1, hi1, hy0, hy1, hy2⟩ := info_parts Tryz.infoStep
  rw [hi1]; simp [hy1]

set_option maxHeartbeats 400000 in
set_option maxRecDepth 1000000 in
theorem add_any (hm : Fd w b g t Q) (hQ : Q.length ≤ 9000000) (q : Qd) : Calls Tryz.prog 177 #[.pointer (some ⟨b, 0, none⟩), .agg (qcL q).toArray] w fun e w' => e = .returned (.tuple #[]) ∧ Fd w' b g t (Q ++ [q]) ∧ Below b w w' := by
  obtain ⟨v, h1, h2⟩ := hm.stp
  obtain ⟨i1, hi1, hy0, hy1, hy2⟩ := info_parts Tryz.infoStep
  have h3 := hm.stf
  have hlt := hm.lt
  have HM := hide hm
  go_enter Tryz.func177, Tryz.ntmps177
  go_wp2_with fail
  have b1 : Below (b + 1) w (w.alloc (.cells (qcL q).toArray 145)) := (Below.refl _ _).alloc (by omega) _
  have p0 : ∀ j, (w.alloc (.cells (qcL q).toArray 145)).cell? ⟨w.heap.size, j, none⟩ = (qcL q)[j]? := fun j => by rw [World.cell?_alloc_new]; simp
  have o1 := h2.alloc (.cells (qcL q).toArray 145)
  have z1 : (w.alloc (.cells (qcL q).toArray 145)).heap.size = w.heap.size + 1 := by simp
  have c2 := (b1.cell (p := ⟨b, 2, none⟩) (Nat.lt_succ_self b)).trans h1
  have f2 := (b1.frozen (p := ⟨b, 2, none⟩) (Nat.lt_succ_self b)).trans h3
  generalize hW1 : w.alloc (.cells (qcL q).toArray 145) = W1 at *
  have q0 := p0 0
  have q1 := p0 1
  have q2 := p0 2
  have q3 := p0 3
  simp only [qcL, List.getElem?_cons_zero, List.getElem?_cons_succ] at q0 q1 q2 q3
  have hc2 := h1
  have hf2 := h3
  clear p0 hW1
  have ON : Hid ((W1.drew.alloc (.cells (qcL q).toArray 145)).ownsRow (b + 1) 145 4 v Q.length (qcs Q)) := hide (o1.drew.alloc _)
  have NW : Hid (∀ j u, (qcL q)[j]? = some u → (W1.drew.alloc (.cells (qcL q).toArray 145)).cell? ((⟨w.heap.size + 1, 0, none⟩ : Addr).add j) = some u) := hide (by
    have h := heap_alloc_new W1.drew (.cells (qcL q).toArray 145)
    rw [show W1.drew.heap.size = w.heap.size + 1 from z1] at h
    exact World.news_of_block h)
  have N1 : Hid (∀ u ∈ qcL q, u.oneCell' = true) := hide (fun u hu => by simp [qcL] at hu; rcases hu with rfl | rfl | rfl | rfl <;> rfl)
  go_region_law (refine step_append_lies _ rfl _ _ 141 rfl (b + 1) 145 i1 _ 4 32 Tryz.underlying141 hi1 hy0 hy1 hy2 rfl (by decide) v Q.length (qcs Q) (by simp [Act.eval]) (unhide ON) ⟨w.heap.size + 1, 0, none⟩ 1 1 (qcL q) (by simp [Act.eval]) rfl (unhide NW) (unhide N1) (by omega) (by unfold maxLen; omega) (by omega) (by simp [z1]; omega) _ rfl ?_; intro g1 cap1 w3 hown3 hg3 hb3 hlt3; have hbel : Below (b + 1) w w3 := ((b1.drew).alloc (by show b + 1 ≤ W1.heap.size; omega) _).grown hg3 (by simp; omega) (fun j hj => (h2.lt j hj).1); have k1 := (hbel.cell (p := ⟨b, 2, none⟩) (Nat.lt_succ_self b)).trans hc2; have k2 := (hbel.frozen (p := ⟨b, 2, none⟩) (Nat.lt_succ_self b)).trans hf2)
  all_goals
    go_end0
    refine ⟨rfl, ?_, Below.setCell (B := b) (hbel.mono (Nat.le_succ b)) (p := ⟨b, 2, none⟩) (Nat.le_refl b) _⟩
    have hm := unhide HM
    have hc : ∀ o, o ≠ 2 → (w3.setCell ⟨b, 2, none⟩ (.slice (some ⟨g1, 0, none⟩) (Q.length + 1) cap1)).cell? ⟨b, o, none⟩ = w.cell? ⟨b, o, none⟩ := fun o ho => (World.cell?_setCell_other w3 _ _ _ (fun e => ho (by injection e with _ e; exact e.symm))).trans (hbel.cell (p := ⟨b, o, none⟩) (Nat.lt_succ_self b))
    refine ⟨by have := hbel.size; simp; omega, hm.gb, (hc 0 (by omega)).trans hm.tre, (hc 1 (by omega)).trans hm.ens, (hm.row.of_block (hbel.block g (by have := hm.gb; omega))).setOther (a := ⟨b, 2, none⟩) (by have := hm.gb; show g ≠ b; omega) _, ⟨_, World.cell?_setCell_same w3 _ _ k1, ?_⟩, by rw [World.frozen?_setCell]; exact k2⟩
    rw [qcs_push, List.length_append]
    exact ownsRow_setCell_below hown3 (a := ⟨b, 2, none⟩) (Nat.lt_succ_self b) _
end
end Go.Proofs.YtnfaiaoipeholaaGreatDoor

namespace Go.Proofs.YtnfaiaoipeholaaGreatDoor
open Go.RowKit
theorem enP_bd {t : ByteArray} {k : Nat} (h : k < t.size) : k < enP t k ∧ enP t k ≤ t.size + 1 := by
  unfold enP; rw [if_pos h]; exact en_bd h
theorem enP_le {t : ByteArray} (k : Nat) : enP t k ≤ t.size + 1 := by
  by_cases h : k < t.size
  · exact (enP_bd h).2
  · unfold enP; rw [if_neg h]; omega
section
variable {w : World} {b g : Nat} {s t : ByteArray} {Q : List Qd} {f : TF}
theorem add4_any (hm : Fd w b g t Q) (hQ : Q.length ≤ 9000000) (q : Qd) {x0 x1 x2 x3 : Int} (h0 : x0 = q.1) (h1 : x1 = q.2.1) (h2 : x2 = q.2.2.1) (h3 : x3 = q.2.2.2) : Calls Tryz.prog 177 #[.pointer (some ⟨b, 0, none⟩), .agg #[.int .i64 x0, .int .i64 x1, .int .i64 x2, .int .i64 x3]] w fun e w' => e = .returned (.tuple #[]) ∧ Fd w' b g t (Q ++ [q]) ∧ Below b w w' := by
  subst h0 h1 h2 h3
  exact add_any hm hQ q

set_option maxHeartbeats 400000 in
theorem findOption_any (hT : TreeOf s t f) (hm : Fd w b g t Q) (hQ : Q.length ≤ 9000000) (q : Int) (k : Nat) (hq : q = k) (hk : k < t.size) : Calls Tryz.prog 150 #[.pointer (some ⟨b, 0, none⟩), .int .i64 q] w fun e w' => e = .returned (.tuple #[]) ∧ Fd w' b g t (Q ++ optQ t k) ∧ Below b w w' := by
  subst hq
  have hz := hT.le
  have hb := enP_bd hk
  obtain ⟨hb1, hb2⟩ := hb
  have HM := hide hm
  have HT := hide hT
  have hlt := hm.lt
  clear hm hT
  by_cases h : k + 1 < enP t k - 1
  · have e1 : optQ t k = [cutQ (k + 1) (enP t k - 1)] := by unfold optQ; rw [if_pos h]
    rw [e1]
    clear e1
    go_enter Tryz.func150, Tryz.ntmps150
    go_wp2_with (first | (go_at_call 176; refine (fend_any (unhide HT) (unhide HM) _ k rfl).mono ?_; rintro e w' ⟨rfl, hw⟩; replace hw := hw.symm; subst hw) | fail)
    refine (cut_any _ _ _).mono ?_
    rintro e w1 ⟨rfl, hb1⟩
    go_wp2_with fail
    refine (add4_any ((unhide HM).below hb1) hQ (cutQ (k + 1) (enP t k - 1)) (by simp only [cutQ]; omega) (by simp only [cutQ]; omega) (by simp only [cutQ]; omega) (by simp only [cutQ]; omega)).mono ?_
    rintro e w2 ⟨rfl, hf2, hb2⟩
    have HF := hide hf2
    have HB := hide ((hb1.mono (Nat.le_of_lt hlt)).trans hb2)
    clear hf2 hb2
    go_wp2
    go_end0
    exact ⟨rfl, unhide HF, unhide HB⟩
  · have e1 : optQ t k = [] := by unfold optQ; rw [if_neg h]
    rw [e1, List.append_nil]
    clear e1
    go_enter Tryz.func150, Tryz.ntmps150
    go_wp2_with (first | (go_at_call 176; refine (fend_any (unhide HT) (unhide HM) _ k rfl).mono ?_; rintro e w' ⟨rfl, hw⟩; replace hw := hw.symm; subst hw))
    go_end0
    exact ⟨rfl, unhide HM, Below.refl _ _⟩

set_option maxHeartbeats 400000 in
theorem elementEnd_any (hT : TreeOf s t f) (hm : Fd w b g t Q) (q : Int) (k : Nat) (hq : q = k) (hk : k < t.size) : Calls Tryz.prog 179 #[.pointer (some ⟨b, 0, none⟩), .int .i64 q] w fun e w' => e = .returned (.int .i64 (elE t k)) ∧ w' = w := by
  subst hq
  have hz := hT.le
  have h0 := hm.tre
  generalize hR : elE t k = R
  unfold elE at hR
  have HR := hide hR
  have HM := hide hm
  have HT := hide hT
  clear hR hm hT
  go_enter Tryz.func179, Tryz.ntmps179
  go_wp2
  go_loop [5] (fun iv => ∃ j n : Nat, iv = .int .i64 j ∧ j ≤ t.size + 1 ∧ t.size ≤ n + j ∧ Hid (eqeF t n j = R)) (fun iv => t.size + 1 - (intOf iv).toNat)
  case atStart => exact ⟨k, t.size, rfl, by omega, by omega, HR⟩
  case round =>
    obtain ⟨j, n, rfl, hj, hn, hr⟩ := hrel
    clear HR
    by_cases hlt : j < t.size
    · obtain ⟨m, rfl⟩ : ∃ m, n = m + 1 := ⟨n - 1, by omega⟩
      have hbt := bt_at t j hlt
      have hst := unhide hr
      unfold eqeF at hst
      have hen := enP_bd hlt
      have hee : enP t j = en t j := by unfold enP; rw [if_pos hlt]
      obtain ⟨he1, he2⟩ := hen
      by_cases h44 : bt t j = 44
      · rw [if_neg (fun h => h.2.1 h44)] at hst
        have hc44 : (t[j].toNat : Int) = 44 := by rw [← hbt]; exact h44
        have HS := hide hst
        clear hst hr hbt h44
        go_wp2
        go_ret; exact ⟨ret_int (by rw [unhide HS]), rfl⟩
      · have hc44 : ((t[j].toNat : Int) != 44) = true := by rw [← hbt]; simp [h44]
        cases hx : cX (bt t j)
        · rw [if_pos ⟨hlt, h44, hx⟩, ← hee] at hst
          clear hee
          have HX : Hid (cX (t[j].toNat : Int) = false) := hide (by rw [← hbt]; exact hx)
          have HS := hide hst
          clear hst hr hbt h44 hx
          go_wp2_with (first | (go_at_call 140; refine (isClosing_any _ _).mono ?_; rw [unhide HX]; rintro e w' ⟨rfl, rfl⟩) | (go_at_call 176; refine (fend_any (unhide HT) (unhide HM) _ j rfl).mono ?_; rintro e w' ⟨rfl, hw⟩; replace hw := hw.symm; subst hw))
          exact ⟨⟨enP t j, m, rfl, by omega, by omega, HS⟩, by simp [intOf]; omega⟩
        · rw [if_neg (fun h => by rw [hx] at h; exact absurd h.2.2 (by decide))] at hst
          have HX : Hid (cX (t[j].toNat : Int) = true) := hide (by rw [← hbt]; exact hx)
          have HS := hide hst
          clear hst hr hbt h44 hx
          go_wp2_with (first | (go_at_call 140; refine (isClosing_any _ _).mono ?_; rw [unhide HX]; rintro e w' ⟨rfl, rfl⟩))
          go_ret; exact ⟨ret_int (by rw [unhide HS]), rfl⟩
    · have HS : Hid (j = R) := hide (by
        rw [← unhide hr]
        cases n with
        | zero => rfl
        | succ n => unfold eqeF; rw [if_neg (fun h => hlt h.1)])
      clear hr
      go_wp2
      go_ret; exact ⟨ret_int (by rw [unhide HS]), rfl⟩
end
end Go.Proofs.YtnfaiaoipeholaaGreatDoor

namespace Go.Proofs.YtnfaiaoipeholaaGreatDoor
open Go.RowKit
theorem eqe_bd {t : ByteArray} : ∀ n j, j ≤ t.size + 1 → eqeF t n j ≤ t.size + 1
  | 0, j, h => h
  | n + 1, j, h => by
    unfold eqeF
    split
    · rename_i h1
      exact eqe_bd n _ (en_bd h1.1).2
    · exact h
theorem elE_bd {t : ByteArray} {k : Nat} (h : k < t.size) : elE t k ≤ t.size + 1 := eqe_bd _ _ (by omega)
section
variable {w : World} {b g : Nat} {s t : ByteArray} {Q : List Qd} {f : TF}

set_option maxHeartbeats 400000 in
theorem findElement_any (hT : TreeOf s t f) (hm : Fd w b g t Q) (hQ : Q.length ≤ 9000000) (q : Int) (k : Nat) (hq : q = k) (hk : k < t.size) : Calls Tryz.prog 152 #[.pointer (some ⟨b, 0, none⟩), .int .i64 q] w fun e w' => e = .returned (.tuple #[]) ∧ Fd w' b g t (Q ++ eleQ t k) ∧ Below b w w' := by
  subst hq
  have hz := hT.le
  have ht : t.size ≤ maxLen := by unfold maxLen; omega
  have heb := elE_bd hk
  have HM := hide hm
  have HT := hide hT
  have hlt := hm.lt
  have h0 := hm.tre
  clear hm hT
  generalize hR : eleQ t k = R
  unfold eleQ at hR
  generalize hE : elE t k = E at *
  have HE := hide hE
  clear hE
  by_cases h1 : bt t ((k : Int) - 1) = 44
  · rw [if_pos h1] at hR
    have hk0 : 0 < k := by
      rcases Nat.eq_zero_or_pos k with e | e
      · subst e
        rw [bt_out _ _ (by omega)] at h1
        exact absurd h1 (by decide)
      · exact e
    subst hR
    have H1 := hide h1
    clear h1
    go_enter Tryz.func152, Tryz.ntmps152
    go_wp2_with (first
      | (go_at_call 87; refine (at_any _ _ _ ht).mono ?_; rw [unhide H1]; rintro e w' ⟨rfl, hw⟩; replace hw := hw.symm; subst hw)
      | (go_at_call 179; refine (elementEnd_any (unhide HT) (unhide HM) _ k rfl hk).mono ?_; rw [unhide HE]; rintro e w' ⟨rfl, hw⟩; replace hw := hw.symm; subst hw)
      | fail)
    refine (cut_any _ _ _).mono ?_
    rintro e w1 ⟨rfl, hb1⟩
    go_wp2_with fail
    refine (add4_any ((unhide HM).below hb1) hQ (cutQ (k - 1) E) (by simp only [cutQ]; omega) rfl rfl rfl).mono ?_
    rintro e w2 ⟨rfl, hf2, hb2⟩
    have HF := hide hf2
    have HB := hide ((hb1.mono (Nat.le_of_lt hlt)).trans hb2)
    clear hf2 hb2
    go_wp2
    go_end0
    exact ⟨rfl, unhide HF, unhide HB⟩
  · rw [if_neg h1] at hR
    have h1' : (bt t ((k : Int) - 1) == 44) = false := by simp [h1]
    by_cases h2 : bt t E = 44
    · rw [if_pos h2] at hR
      subst hR
      have h2' : (bt t E == 44) = true := by simp [h2]
      clear h1 h2
      go_enter Tryz.func152, Tryz.ntmps152
      go_wp2_with (first
        | (go_at_call 87; refine (at_any _ _ _ ht).mono ?_; rintro e w' ⟨rfl, hw⟩; replace hw := hw.symm; subst hw)
        | (go_at_call 179; refine (elementEnd_any (unhide HT) (unhide HM) _ k rfl hk).mono ?_; rw [unhide HE]; rintro e w' ⟨rfl, hw⟩; replace hw := hw.symm; subst hw)
        | fail)
      refine (cut_any _ _ _).mono ?_
      rintro e w1 ⟨rfl, hb1⟩
      go_wp2_with fail
      refine (add4_any ((unhide HM).below hb1) hQ (cutQ k (E + 1)) rfl (by simp only [cutQ]; omega) (by simp only [cutQ]; omega) (by simp only [cutQ]; omega)).mono ?_
      rintro e w2 ⟨rfl, hf2, hb2⟩
      have HF := hide hf2
      have HB := hide ((hb1.mono (Nat.le_of_lt hlt)).trans hb2)
      clear hf2 hb2
      go_wp2
      go_end0
      exact ⟨rfl, unhide HF, unhide HB⟩
    · rw [if_neg h2] at hR
      have h2' : (bt t E == 44) = false := by simp [h2]
      by_cases h3 : bt t ((k : Int) - 1) = 123
      · rw [if_pos h3] at hR
        subst hR
        have h3' : (bt t ((k : Int) - 1) == 123) = true := by simp [h3]
        clear h1 h2 h3
        go_enter Tryz.func152, Tryz.ntmps152
        go_wp2_with (first
          | (go_at_call 87; refine (at_any _ _ _ ht).mono ?_; rintro e w' ⟨rfl, hw⟩; replace hw := hw.symm; subst hw)
          | (go_at_call 179; refine (elementEnd_any (unhide HT) (unhide HM) _ k rfl hk).mono ?_; rw [unhide HE]; rintro e w' ⟨rfl, hw⟩; replace hw := hw.symm; subst hw)
          | fail)
        refine (cut_any _ _ _).mono ?_
        rintro e w1 ⟨rfl, hb1⟩
        go_wp2_with fail
        refine (add4_any ((unhide HM).below hb1) hQ (cutQ k E) rfl rfl rfl rfl).mono ?_
        rintro e w2 ⟨rfl, hf2, hb2⟩
        have HF := hide hf2
        have HB := hide ((hb1.mono (Nat.le_of_lt hlt)).trans hb2)
        clear hf2 hb2
        go_wp2
        go_end0
        exact ⟨rfl, unhide HF, unhide HB⟩
      · rw [if_neg h3] at hR
        subst hR
        rw [List.append_nil]
        have h3' : (bt t ((k : Int) - 1) == 123) = false := by simp [h3]
        clear h1 h2 h3
        go_enter Tryz.func152, Tryz.ntmps152
        go_wp2_with (first
          | (go_at_call 87; refine (at_any _ _ _ ht).mono ?_; rintro e w' ⟨rfl, hw⟩; replace hw := hw.symm; subst hw)
          | (go_at_call 179; refine (elementEnd_any (unhide HT) (unhide HM) _ k rfl hk).mono ?_; rw [unhide HE]; rintro e w' ⟨rfl, hw⟩; replace hw := hw.symm; subst hw))
        go_end0
        exact ⟨rfl, unhide HM, Below.refl _ _⟩

/-- the names that were found, from the last one on -/
def nmD (t : ByteArray) (i E j : Nat) : List Qd := (nmS t (bt t i) (j + 1) (E - (j + 1))).reverse.map fun m => (i, m, enP t (m + 1), E)
theorem nmD_step {t : ByteArray} {i E j : Nat} (h : j < E) (hj : 0 < j) : nmD t i E (j - 1) = nmD t i E j ++ (if bt t j = bt t i then [(i, j, enP t (j + 1), E)] else []) := by
  unfold nmD
  rw [show j - 1 + 1 = j by omega, show E - j = 1 + (E - (j + 1)) by omega, nmS_add, nmS_one, List.reverse_append, List.map_append]
  by_cases e : bt t j = bt t i
  · rw [if_pos e, if_pos e]; rfl
  · rw [if_neg e, if_neg e]; rfl
theorem nmS_len (t : ByteArray) (c : Int) (i n : Nat) : (nmS t c i n).length ≤ n := by
  unfold nmS
  exact Nat.le_trans (List.length_filter_le _ _) (by simp)
theorem nmD_len (t : ByteArray) (i E j : Nat) : (nmD t i E j).length ≤ E - (j + 1) := by
  unfold nmD
  rw [List.length_map, List.length_reverse]
  exact nmS_len _ _ _ _

set_option maxHeartbeats 1000000 in
theorem findNames_any (hT : TreeOf s t f) (hm : Fd w b g t Q) (hQ : Q.length ≤ 8000000) (q : Int) (k : Nat) (hq : q = k) (hk : k < t.size) : Calls Tryz.prog 151 #[.pointer (some ⟨b, 0, none⟩), .int .i64 q] w fun e w' => e = .returned (.tuple #[]) ∧ Fd w' b g t (Q ++ namQ t k) ∧ Below b w w' := by
  subst hq
  have hz := hT.le
  have ht : t.size ≤ maxLen := by unfold maxLen; omega
  have hE1 : k + 1 ≤ enP t (k + 1) := by
    by_cases h : k + 1 < t.size
    · have := (enP_bd h).1; omega
    · unfold enP; rw [if_neg h]; omega
  have hE2 := enP_le (t := t) (k + 1)
  have HM := hide hm
  have HT := hide hT
  have hlt := hm.lt
  have h0 := hm.tre
  clear hm hT
  have hR : namQ t k = nmD t k (enP t (k + 1)) k := rfl
  rw [hR]
  clear hR
  generalize hE : enP t (k + 1) = E at *
  have HE := hide hE
  clear hE
  have hS0 : nmD t k E (E - 1) = [] := by
    unfold nmD
    rw [show E - (E - 1 + 1) = 0 by omega]; rfl
  go_enter Tryz.func151, Tryz.ntmps151
  go_wp2_with (first
    | (go_at_call 87; refine (at_any _ _ _ ht).mono ?_; rintro e w' ⟨rfl, hw⟩; replace hw := hw.symm; subst hw)
    | (go_at_call 176; refine (fend_any (unhide HT) (unhide HM) _ (k + 1) (by omega)).mono ?_; rw [unhide HE]; rintro e w' ⟨rfl, hw⟩; replace hw := hw.symm; subst hw))
  go_loopw [6] (fun iv wr => ∃ j : Nat, iv = .int .i64 j ∧ k ≤ j ∧ j < E ∧ Hid (Fd wr b g t (Q ++ nmD t k E j)) ∧ Hid (Below b w wr)) (fun iv _ => (intOf iv).toNat)
  case atStart => exact ⟨E - 1, by go_num, by omega, by omega, hide (by rw [hS0, List.append_nil]; exact unhide HM), hide (Below.refl _ _)⟩
  case round =>
    obtain ⟨j, rfl, hj1, hj2, hF, hB⟩ := hrel
    have c0 := (unhide hF).tre
    clear hS0 HM h0
    by_cases hgt : k < j
    · have hst := nmD_step (t := t) (i := k) hj2 (by omega)
      have hl := nmD_len t k E j
      have hlr := (unhide hF).lt
      by_cases he : bt t j = bt t k
      · rw [if_pos he] at hst
        have he' : (bt t j == bt t k) = true := by simp [he]
        have HS := hide hst
        have HEn := hide (enP_le (t := t) (j + 1))
        clear hst he
        go_wp2_with (first
          | (go_at_call 87; refine (at_any _ _ _ ht).mono ?_; rintro e w' ⟨rfl, hw⟩; replace hw := hw.symm; subst hw)
          | (go_at_call 176; refine (fend_any (unhide HT) (unhide hF) _ (j + 1) (by omega)).mono ?_; rintro e w' ⟨rfl, hw⟩; replace hw := hw.symm; subst hw)
          | fail)
        refine (add4_any (unhide hF) (by rw [List.length_append]; omega) (k, j, enP t (j + 1), E) rfl rfl rfl rfl).mono ?_
        rintro e w2 ⟨rfl, hf2, hb2⟩
        have HF2 : Hid (Fd w2 b g t (Q ++ nmD t k E (j - 1))) := hide (by rw [unhide HS, ← List.append_assoc]; exact hf2)
        have HB2 := hide ((unhide hB).trans hb2)
        clear hf2 hb2
        go_wp2
        go_roundw
        case rel => exact ⟨j - 1, by go_num, by omega, by omega, HF2, HB2⟩
        case measure => simp [intOf]; omega
      · rw [if_neg he, List.append_nil] at hst
        have he' : (bt t j == bt t k) = false := by simp [he]
        have HF2 : Hid (Fd wr b g t (Q ++ nmD t k E (j - 1))) := hide (by rw [hst]; exact unhide hF)
        clear hst he
        go_wp2_with (first
          | (go_at_call 87; refine (at_any _ _ _ ht).mono ?_; rintro e w' ⟨rfl, hw⟩; replace hw := hw.symm; subst hw))
        go_roundw
        case rel => exact ⟨j - 1, by go_num, by omega, by omega, HF2, hB⟩
        case measure => simp [intOf]; omega
    · have e : j = k := by omega
      subst e
      go_wp2
      go_end0
      exact ⟨rfl, unhide hF, unhide hB⟩
end
end Go.Proofs.YtnfaiaoipeholaaGreatDoor

namespace Go.Proofs.YtnfaiaoipeholaaGreatDoor
open Go.RowKit
/-- the steps of the places ahead of one -/
def upQ (t : ByteArray) (k : Nat) : List Qd := (List.range k).flatMap (plQ t)
theorem upQ_succ (t : ByteArray) (k : Nat) : upQ t (k + 1) = upQ t k ++ plQ t k := by
  unfold upQ; rw [List.range_succ, List.flatMap_append]; simp
theorem plQ_len {t : ByteArray} {k : Nat} (h : t.size ≤ 2000) : (plQ t k).length ≤ 2003 := by
  have h1 : (optQ t k).length ≤ 1 := by unfold optQ; split <;> simp
  have h2 : (eleQ t k).length ≤ 1 := by
    unfold eleQ
    split
    · simp
    split
    · simp
    split <;> simp
  have h3 : (namQ t k).length ≤ 2001 := by
    unfold namQ
    rw [List.length_map, List.length_reverse]
    have := nmS_len t (bt t k) (k + 1) (enP t (k + 1) - (k + 1))
    have := enP_le (t := t) (k + 1)
    omega
  unfold plQ
  simp only [List.length_append]
  have e1 : (if bt t k = 91 then optQ t k else []).length ≤ 1 := by split <;> simp_all
  have e2 : (if cN (bt t k) = true then namQ t k else []).length ≤ 2001 := by split <;> simp_all
  have e3 : (if cD (bt t k) = true then eleQ t k else []).length ≤ 1 := by split <;> simp_all
  omega
theorem upQ_len {t : ByteArray} (h : t.size ≤ 2000) : ∀ k, (upQ t k).length ≤ k * 2003
  | 0 => by simp [upQ]
  | k + 1 => by
    have := upQ_len h k
    have := plQ_len (k := k) h
    rw [upQ_succ, List.length_append]; omega
set_option maxHeartbeats 400000 in
theorem isDig_any (c : Int) (w : World) : Calls Tryz.prog 90 #[.int .u8 c] w fun e w' => e = .returned (.bool (cD c)) ∧ w' = w := by
  go_enter Tryz.func90, Tryz.ntmps90
  go_wp2
  all_goals (go_ret; exact ⟨ret_bool (by simp [cD]; omega), rfl⟩)
theorem owns_less {w : World} {base base' : Nat} {e : TypeId} {size : Nat} {v : Value} {n : Nat} {xs : List Value} (h : w.ownsRow base e size v n xs) (hb : base' ≤ base) : w.ownsRow base' e size v n xs := by
  obtain ⟨h1, h2⟩ := h
  refine ⟨h1, ?_⟩
  rcases h2 with h2 | ⟨g, cap, cur, a1, a2, a3⟩
  · exact .inl h2
  · exact .inr ⟨g, cap, cur, a1, Nat.le_trans hb a2, a3⟩
section
variable {s t : ByteArray} {f : TF}
theorem Fd.start {w w1 : World} (hr1 : w1.rowIs w.heap.size 3 t.size (enF (ensL t))) :
    Fd (w1.alloc (.cells #[.string t, .slice (some ⟨w.heap.size, 0, none⟩) t.size t.size, .slice none 0 0] 166)) w1.heap.size w.heap.size t [] := by
  have hlt := hr1.lt
  refine ⟨by simp, hlt, by rw [World.cell?_alloc_new]; rfl, by rw [World.cell?_alloc_new]; rfl, hr1.alloc _, ⟨.slice none 0 0, by rw [World.cell?_alloc_new]; rfl, World.ownsRow_nil _ _ _ _⟩, World.frozen?_alloc_new w1 _ _ 2⟩
set_option maxHeartbeats 1000000 in
set_option maxRecDepth 1000000 in
theorem stepsOf_any (hT : TreeOf s t f) (w : World) : Calls Tryz.prog 117 #[.string t] w fun e w' => ∃ v, e = .returned v ∧ w'.ownsRow w.heap.size 145 4 v (allQ t).length (qcs (allQ t)) ∧ Below w.heap.size w w' := by
  have hz := hT.le
  have HT := hide hT
  clear hT
  have hR : allQ t = upQ t t.size := rfl
  rw [hR]
  clear hR
  go_enter Tryz.func117, Tryz.ntmps117
  go_wp2_with fail
  refine (endsOf_any t _ hz).mono ?_
  rintro e w1 ⟨rfl, hr1, hb1⟩
  have HS := hide (Fd.start hr1)
  have HB1 := hide (hb1.alloc hb1.size (.cells #[.string t, .slice (some ⟨w.heap.size, 0, none⟩) t.size t.size, .slice none 0 0] 166))
  have hlt1 := hr1.lt
  clear hr1
  go_wp2_with fail
  generalize hw2 : World.alloc _ _ = w2 at *
  clear hw2
  go_loopw [4] (fun iv wr => ∃ k : Nat, iv = .int .i64 k ∧ k ≤ t.size ∧ Hid (Fd wr w1.heap.size w.heap.size t (upQ t k)) ∧ Hid (Below w.heap.size w wr)) (fun iv _ => t.size - (intOf iv).toNat)
  case atStart => exact ⟨0, rfl, Nat.zero_le _, HS, HB1⟩
  case round =>
    obtain ⟨k, rfl, hk, hF, hB⟩ := hrel
    clear HS HB1
    by_cases hlt : k < t.size
    · have hbt := bt_at t k hlt
      have hbd := (t[k]).toNat_lt
      have hst := upQ_succ t k
      have hQ := upQ_len hz k
      have hQ8 : (upQ t k).length ≤ 8000000 := by omega
      unfold plQ at hst
      rw [hbt] at hst
      generalize hx : ((t[k].toNat : Nat) : Int) = x at *
      by_cases h1 : x = 91
      · subst h1
        rw [if_pos rfl, if_neg (by decide), if_neg (by decide)] at hst
        simp only [List.append_nil] at hst
        have HST := hide hst
        clear hst hbt
        go_wp2_with fail
        refine (findOption_any (unhide HT) (unhide hF) (by omega) _ k rfl hlt).mono ?_
        rintro e w3 ⟨rfl, hf3, hb3⟩
        have HF3 : Hid (Fd w3 w1.heap.size w.heap.size t (upQ t (k + 1))) := hide (by rw [unhide HST]; exact hf3)
        have HB3 := hide ((unhide hB).trans (hb3.mono (Nat.le_of_lt hlt1)))
        clear hf3 hb3
        go_wp2_with (first
          | (go_at_call 86; refine (isName_any _ _).mono ?_; rw [show cN 91 = false by decide]; rintro e w' ⟨rfl, hw⟩; replace hw := hw.symm; subst hw)
          | (go_at_call 90; refine (isDig_any _ _).mono ?_; rw [show cD 91 = false by decide]; rintro e w' ⟨rfl, hw⟩; replace hw := hw.symm; subst hw))
        go_roundw
        case rel => exact ⟨k + 1, by go_num, by omega, HF3, HB3⟩
        case measure => simp [intOf]; omega
      · have h1' : (x == 91) = false := by simp [h1]
        rw [if_neg h1, List.nil_append] at hst
        cases h2 : cN x
        · cases h3 : cD x
          · rw [if_neg (by rw [h2]; decide), if_neg (by rw [h3]; decide)] at hst
            simp only [List.append_nil] at hst
            have HF3 : Hid (Fd wr w1.heap.size w.heap.size t (upQ t (k + 1))) := hide (by rw [hst]; exact unhide hF)
            have H2 := hide h2
            have H3 := hide h3
            clear hst hbt h1 h2 h3
            go_wp2_with (first
              | (go_at_call 86; refine (isName_any _ _).mono ?_; rw [unhide H2]; rintro e w' ⟨rfl, hw⟩; replace hw := hw.symm; subst hw)
              | (go_at_call 90; refine (isDig_any _ _).mono ?_; rw [unhide H3]; rintro e w' ⟨rfl, hw⟩; replace hw := hw.symm; subst hw))
            go_roundw
            case rel => exact ⟨k + 1, by go_num, by omega, HF3, hB⟩
            case measure => simp [intOf]; omega
          · rw [if_neg (by rw [h2]; decide), if_pos h3, List.nil_append] at hst
            have HST := hide hst
            have H2 := hide h2
            have H3 := hide h3
            clear hst hbt h1 h2 h3
            go_wp2_with (first
              | (go_at_call 86; refine (isName_any _ _).mono ?_; rw [unhide H2]; rintro e w' ⟨rfl, hw⟩; replace hw := hw.symm; subst hw)
              | (go_at_call 90; refine (isDig_any _ _).mono ?_; rw [unhide H3]; rintro e w' ⟨rfl, hw⟩; replace hw := hw.symm; subst hw)
              | fail)
            refine (findElement_any (unhide HT) (unhide hF) (by omega) _ k rfl hlt).mono ?_
            rintro e w3 ⟨rfl, hf3, hb3⟩
            have HF3 : Hid (Fd w3 w1.heap.size w.heap.size t (upQ t (k + 1))) := hide (by rw [unhide HST]; exact hf3)
            have HB3 := hide ((unhide hB).trans (hb3.mono (Nat.le_of_lt hlt1)))
            clear hf3 hb3
            go_wp2
            go_roundw
            case rel => exact ⟨k + 1, by go_num, by omega, HF3, HB3⟩
            case measure => simp [intOf]; omega
        · have h3 : cD x = false := by
            have hv : 65 ≤ x ∧ x ≤ 90 := by simpa [cN] using h2
            simp [cD]; omega
          rw [if_pos h2, if_neg (by rw [h3]; decide), List.append_nil] at hst
          have HST := hide hst
          have H2 := hide h2
          have H3 := hide h3
          clear hst hbt h1 h2 h3
          go_wp2_with (first
            | (go_at_call 86; refine (isName_any _ _).mono ?_; rw [unhide H2]; rintro e w' ⟨rfl, hw⟩; replace hw := hw.symm; subst hw)
            | fail)
          refine (findNames_any (unhide HT) (unhide hF) hQ8 _ k rfl hlt).mono ?_
          rintro e w3 ⟨rfl, hf3, hb3⟩
          have HF3 : Hid (Fd w3 w1.heap.size w.heap.size t (upQ t (k + 1))) := hide (by rw [unhide HST]; exact hf3)
          have HB3 := hide ((unhide hB).trans (hb3.mono (Nat.le_of_lt hlt1)))
          clear hf3 hb3
          go_wp2_with (first
            | (go_at_call 90; refine (isDig_any _ _).mono ?_; rw [unhide H3]; rintro e w' ⟨rfl, hw⟩; replace hw := hw.symm; subst hw))
          go_roundw
          case rel => exact ⟨k + 1, by go_num, by omega, HF3, HB3⟩
          case measure => simp [intOf]; omega
    · have e : k = t.size := by omega
      subst e
      obtain ⟨v, c2, ho⟩ := (unhide hF).stp
      have HO := hide (owns_less ho (Nat.le_succ_of_le (Nat.le_of_lt hlt1)))
      clear ho
      go_wp2
      go_ret
      exact ⟨v, rfl, unhide HO, unhide hB⟩
end
end Go.Proofs.YtnfaiaoipeholaaGreatDoor

namespace Go.Proofs.YtnfaiaoipeholaaGreatDoor
open Go.RowKit
theorem qB_yes {t : ByteArray} {q : Qd} (h : q.1 ≤ q.2.1 ∧ q.2.1 ≤ q.2.2.1 ∧ q.2.2.1 ≤ q.2.2.2 ∧ q.2.2.2 ≤ t.size) : qB t q = t.extract 0 q.1 ++ t.extract q.2.1 q.2.2.1 ++ t.extract q.2.2.2 t.size := by
  unfold qB qT
  rw [if_pos h, ext_seg t (by omega), ext_seg t (by omega), ext_seg t (by omega), strs_app, strs_app, List.append_assoc]
theorem qB_no {t : ByteArray} {q : Qd} (h : ¬ (q.1 ≤ q.2.1 ∧ q.2.1 ≤ q.2.2.1 ∧ q.2.2.1 ≤ q.2.2.2 ∧ q.2.2.2 ≤ t.size)) : qB t q = t := by
  unfold qB qT
  rw [if_neg h, strs_seg]
set_option maxHeartbeats 1000000 in
set_option maxRecDepth 1000000 in
theorem of_any (t : ByteArray) (q0 q1 q2 q3 : Nat) (w : World) (ht : t.size ≤ 2000) : Calls Tryz.prog 119 #[.agg #[.int .i64 (q0 : Int), .int .i64 (q1 : Int), .int .i64 (q2 : Int), .int .i64 (q3 : Int)], .string t] w fun e w' => e = .returned (.string (qB t (q0, q1, q2, q3))) ∧ Below w.heap.size w w' := by
  have hB := hide ((Below.refl w.heap.size w).alloc (Nat.le_refl _) (.cells #[.int .i64 (q0 : Int), .int .i64 (q1 : Int), .int .i64 (q2 : Int), .int .i64 (q3 : Int)] 145))
  by_cases h : q0 ≤ q1 ∧ q1 ≤ q2 ∧ q2 ≤ q3 ∧ q3 ≤ t.size
  · have hR := qB_yes (t := t) (q := (q0, q1, q2, q3)) h
    rw [hR]
    obtain ⟨h1, h2, h3, h4⟩ := h
    clear hR
    have d0 : decide ((q0 : Int) < 0) = false := by simp
    have d1 : decide (q1 < q0) = false := by simp; omega
    have d2 : decide (q2 < q1) = false := by simp; omega
    have d3 : decide (q3 < q2) = false := by simp; omega
    have d4 : decide (t.size < q3) = false := by simp; omega
    go_enter Tryz.func119, Tryz.ntmps119
    go_wp2
    have p0 : ∀ j, (w.alloc (.cells #[.int .i64 (q0 : Int), .int .i64 (q1 : Int), .int .i64 (q2 : Int), .int .i64 (q3 : Int)] 145)).cell? ⟨w.heap.size, j, none⟩ = #[.int .i64 (q0 : Int), .int .i64 (q1 : Int), .int .i64 (q2 : Int), .int .i64 (q3 : Int)][j]? := fun j => by rw [World.cell?_alloc_new]
    generalize hW1 : w.alloc (.cells #[.int .i64 (q0 : Int), .int .i64 (q1 : Int), .int .i64 (q2 : Int), .int .i64 (q3 : Int)] 145) = W1 at *
    have c0 := p0 0
    have c1 := p0 1
    have c2 := p0 2
    have c3 := p0 3
    clear p0 hW1
    go_region_held (fun w' => w'.cell? ⟨w.heap.size, 0, none⟩ = some (.int .i64 (q0 : Int)) ∧ w'.cell? ⟨w.heap.size, 1, none⟩ = some (.int .i64 (q1 : Int)) ∧ w'.cell? ⟨w.heap.size, 2, none⟩ = some (.int .i64 (q2 : Int)) ∧ w'.cell? ⟨w.heap.size, 3, none⟩ = some (.int .i64 (q3 : Int))) (exact ⟨c0, c1, c2, c3⟩) (fail)
    all_goals first
      | (exfalso; omega)
      | (go_wp2; go_ret; exact ⟨rfl, (unhide hB).drew⟩)
  · have hR := qB_no (t := t) (q := (q0, q1, q2, q3)) h
    rw [hR]
    clear hR
    go_enter Tryz.func119, Tryz.ntmps119
    go_wp2
    all_goals (go_ret; exact ⟨rfl, unhide hB⟩)
end Go.Proofs.YtnfaiaoipeholaaGreatDoor

namespace Go.Proofs.YtnfaiaoipeholaaGreatDoor
open Go.RowKit
theorem qcs_get : ∀ (Q : List Qd) (k r : Nat) (hk : k < Q.length), r < 4 → (qcs Q)[k * 4 + r]? = (qcL Q[k])[r]?
  | q :: Q, 0, r, hk, hr => by
    simp only [qcs, List.flatMap_cons, List.getElem_cons_zero]
    rw [List.getElem?_append_left (by simp [qcL]; omega), Nat.zero_mul, Nat.zero_add]
  | q :: Q, k + 1, r, hk, hr => by
    have ih := qcs_get Q k r (by simpa using hk) hr
    simp only [qcs, List.flatMap_cons, List.getElem_cons_succ] at ih ⊢
    rw [List.getElem?_append_right (by simp [qcL]; omega), ← ih]
    congr 1
    simp [qcL]; omega
/-- the first step behind a place, from a number on -/
def ffD (Q : List Qd) (p k : Nat) : Nat := k + ((Q.drop k).takeWhile fun q => decide (q.1 < p)).length
theorem ffD_zero (Q : List Qd) (p : Nat) : ffD Q p 0 = ffN Q p := by unfold ffD ffN; simp
theorem ffD_out {Q : List Qd} {p k : Nat} (h : Q.length ≤ k) : ffD Q p k = k := by unfold ffD; rw [List.drop_eq_nil_of_le h]; rfl
theorem ffD_step {Q : List Qd} {p k : Nat} (h : k < Q.length) : ffD Q p k = if Q[k].1 < p then ffD Q p (k + 1) else k := by
  unfold ffD
  rw [List.drop_eq_getElem_cons h, List.takeWhile_cons]
  by_cases e : Q[k].1 < p
  · rw [if_pos (by simpa using e), if_pos e]; simp; omega
  · rw [if_neg (by simpa using e), if_neg e]; rfl
/-- a row of steps -/
theorem row_form {w : World} {B : Nat} {v : Value} {Q : List Qd} (h : w.ownsRow B 145 4 v Q.length (qcs Q)) : ∃ ao cap, v = .slice ao Q.length cap ∧ ∀ k (hk : k < Q.length), ∃ g, ao = some ⟨g, 0, none⟩ ∧ Q.length ≤ cap ∧ w.cell? ⟨g, k * 4, none⟩ = some (.int .i64 (Q[k].1 : Int)) ∧ w.cell? ⟨g, k * 4 + 1, none⟩ = some (.int .i64 (Q[k].2.1 : Int)) ∧ w.cell? ⟨g, k * 4 + 2, none⟩ = some (.int .i64 (Q[k].2.2.1 : Int)) ∧ w.cell? ⟨g, k * 4 + 3, none⟩ = some (.int .i64 (Q[k].2.2.2 : Int)) := by
  rcases h.2 with ⟨e, h0⟩ | ⟨g, cap, cur, e, _, _, hc, _⟩
  · exact ⟨none, 0, by rw [e, h0], fun k hk => by omega⟩
  · refine ⟨some ⟨g, 0, none⟩, cap, e, fun k hk => ⟨g, rfl, hc, ?_⟩⟩
    subst e
    have hh : ∀ r, r < 4 → w.cell? ⟨g, k * 4 + r, none⟩ = (qcL Q[k])[r]? := fun r hr => by
      rw [h.cellAt (k * 4 + r) (by omega), qcs_get Q k r hk hr]
    exact ⟨hh 0 (by omega), hh 1 (by omega), hh 2 (by omega), hh 3 (by omega)⟩

set_option maxHeartbeats 400000 in
theorem firstFrom_any {w : World} {B : Nat} {v : Value} {Q : List Qd} (h : w.ownsRow B 145 4 v Q.length (qcs Q)) (hQ : Q.length ≤ 9000000) (q : Int) (p : Nat) (hq : q = p) : Calls Tryz.prog 118 #[v, .int .i64 q] w fun e w' => e = .returned (.int .i64 (ffN Q p)) ∧ w' = w := by
  subst hq
  obtain ⟨ao, cap, rfl, hc⟩ := row_form h
  clear h
  rw [← ffD_zero]
  generalize hR : ffD Q p 0 = R
  have HR := hide hR
  have HC := hide hc
  clear hR hc
  go_enter Tryz.func118, Tryz.ntmps118
  go_wp2
  go_loop [5] (fun iv => ∃ k : Nat, iv = .int .i64 k ∧ k ≤ Q.length ∧ Hid (ffD Q p k = R)) (fun iv => Q.length - (intOf iv).toNat)
  case atStart => exact ⟨0, rfl, Nat.zero_le _, HR⟩
  case round =>
    obtain ⟨k, rfl, hk, hr⟩ := hrel
    clear HR
    by_cases hlt : k < Q.length
    · obtain ⟨g, rfl, hcap, c0, c1, c2, c3⟩ := unhide HC k hlt
      have hst := unhide hr
      rw [ffD_step hlt] at hst
      generalize Q[k] = qq at *
      obtain ⟨x0, x1, x2, x3⟩ := qq
      simp only at c0 c1 c2 c3 hst
      by_cases he : x0 < p
      · rw [if_pos he] at hst
        have HS := hide hst
        clear hst hr HC
        go_wp2
        go_round
        case rel => exact ⟨k + 1, by go_num, by omega, HS⟩
        case measure => simp [intOf]; omega
      · rw [if_neg he] at hst
        have HS := hide hst
        clear hst hr HC
        go_wp2
        go_ret; exact ⟨ret_int (by rw [unhide HS]), rfl⟩
    · have HS : Hid (k = R) := hide (by rw [← unhide hr, ffD_out (by omega)])
      clear hr HC
      go_wp2
      go_ret; exact ⟨ret_int (by rw [unhide HS]), rfl⟩
end Go.Proofs.YtnfaiaoipeholaaGreatDoor
