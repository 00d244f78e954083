/- StB StC StD StE -/
import Derived.Test.YtnfaiaoipeholaaGreatDoorAa32
namespace Go.Proofs.YtnfaiaoipeholaaGreatDoor
set_option linter.unusedSimpArgs false
set_option linter.unusedVariables false
section
variable {s t : ByteArray}
theorem perm_mid {α : Type} (a b c : List α) : List.Perm (a ++ (b ++ c)) (b ++ (a ++ c)) := by
  rw [← List.append_assoc, ← List.append_assoc]
  exact List.Perm.append_right c List.perm_append_comm
theorem nmS_cut {c : Int} {i n : Nat} (h1 : bt t i ≠ c) (h2 : bt t (i + 1 + n : Nat) ≠ c) : nmS t c i (n + 2) = nmS t c (i + 1) n := by
  rw [show n + 2 = 1 + (n + 1) by omega, nmS_add, nmS_add, nmS_one, nmS_one, if_neg h1, if_neg h2]
  simp
/-- a name's steps -/
theorem namQ_nm {c : Int} {e : (TE TF)} {i x : Nat} (hc : cN c = true) (h : e.ok s x) (hA : At t i (c :: 40 :: (e.rd ++ [41]))) (hz : i + (c :: 40 :: (e.rd ++ [41])).length ≤ t.size) :
    List.Perm ((namQ t i).map (qT t)) ((e.inn c).map fun g => pcS t i (i + (c :: 40 :: (e.rd ++ [41])).length) g.rd) := by
  have hv : 65 ≤ c ∧ c ≤ 90 := by simpa [cN] using hc
  have hl : (c :: 40 :: (e.rd ++ [41])).length = e.rd.length + 3 := by simp
  have hm := mt_nm h hA
  have hb := hA.head
  have h40 : bt t ((i + 1 : Nat) : Int) = 40 := hA.tail.head
  have h41 : bt t ((i + 1 + 1 + e.rd.length : Nat) : Int) = 41 := hA.tail.tail.right.head
  have he : enP t (i + 1) = i + (c :: 40 :: (e.rd ++ [41])).length := by
    unfold enP en
    rw [if_pos (by omega), if_pos (by rw [h40]; decide), hm, hl]; omega
  have hin := TE.inS_ (t := t) hc e _ (i + 2) h hA.tail.tail.left
  unfold inS at hin
  unfold namQ
  rw [hb, he, hl, show i + (e.rd.length + 3) - (i + 1) = e.rd.length + 2 by omega, nmS_cut (by rw [h40]; omega) (by rw [h41]; omega), List.map_reverse, List.map_reverse]
  refine (List.reverse_perm _).trans ?_
  rw [show ((e.inn c).map fun g => pcS t i (i + (e.rd.length + 3)) g.rd) = ((e.inn c).map TF.rd).map fun L => pcS t i (i + (e.rd.length + 3)) L by rw [List.map_map]; rfl, ← hin, List.map_map, List.map_map]
  refine List.Perm.of_eq (List.map_congr_left (fun j hj => ?_))
  have hj' : i + 2 ≤ j ∧ j < i + 2 + e.rd.length ∧ bt t j = c := by
    unfold nmS at hj
    simp only [List.mem_filter, List.mem_range'_1, decide_eq_true_eq] at hj
    omega
  obtain ⟨n1, n2, n3⟩ := TE.nam (t := t) e _ (i + 2) j h hA.tail.tail.left hj'.1 hj'.2.1 (by rw [hj'.2.2]; exact hc)
  have hek : enP t (j + 1) = mt t (j + 1) + 1 := by
    unfold enP en
    rw [if_pos (by omega), if_pos (by rw [n1]; decide)]
  simp only [Function.comp]
  unfold qT pcS
  simp only
  rw [hek, if_pos ⟨by omega, by omega, by omega, by omega⟩]
/-- the step that an element makes that has a comma ahead -/
theorem eleQ_com {e : (TE TF)} {i x : Nat} (h : e.ok s x) (hb : bt t i = 44) (hA : At t (i + 1) e.rd) (hz : i + 1 + e.rd.length ≤ t.size) (hx : bt t (i + 1 + e.rd.length : Nat) = 44 ∨ cX (bt t (i + 1 + e.rd.length : Nat)) = true) :
    (eleQ t (i + 1)).map (qT t) = [pcS t i (i + 1 + e.rd.length) []] := by
  unfold eleQ
  rw [show (((i + 1 : Nat) : Int) - 1) = (i : Int) by omega, if_pos hb, elE_at h hA hz hx]
  simp only [List.map_cons, List.map_nil, Nat.add_sub_cancel]
  rw [qT_cut (by omega) hz]
  simp [pcS]
/-- with a comma behind, none ahead -/
theorem eleQ_fst {e : (TE TF)} {i x : Nat} (h : e.ok s x) (hb : bt t i ≠ 44) (hA : At t (i + 1) e.rd) (hz : i + 1 + e.rd.length < t.size) (hx : bt t (i + 1 + e.rd.length : Nat) = 44) :
    (eleQ t (i + 1)).map (qT t) = [pcS t (i + 1) (i + 1 + e.rd.length + 1) []] := by
  unfold eleQ
  rw [show (((i + 1 : Nat) : Int) - 1) = (i : Int) by omega, if_neg hb, elE_at h hA (by omega) (.inl hx), if_pos hx]
  simp only [List.map_cons, List.map_nil]
  rw [qT_cut (by omega) (by omega)]
  simp [pcS]
/-- alone -/
theorem eleQ_one {e : (TE TF)} {i x : Nat} (h : e.ok s x) (hb : bt t i ≠ 44) (hA : At t (i + 1) e.rd) (hz : i + 1 + e.rd.length < t.size) (hx : cX (bt t (i + 1 + e.rd.length : Nat)) = true) :
    (eleQ t (i + 1)).map (qT t) = if bt t i = 123 then [pcS t (i + 1) (i + 1 + e.rd.length) []] else [] := by
  have hxv := cX_vals hx
  unfold eleQ
  rw [show (((i + 1 : Nat) : Int) - 1) = (i : Int) by omega, if_neg hb, elE_at h hA (by omega) (.inr hx), if_neg (by omega)]
  split
  · simp only [List.map_cons, List.map_nil]
    rw [qT_cut (by omega) (by omega)]
    simp [pcS]
  · rfl
theorem TE.dig {e : (TE TF)} {x i : Nat} (h : e.ok s x) (hA : At t i e.rd) : cD (bt t i) = true := by
  cases e with
  | mk d fs =>
    simp only [TE.ok_mk] at h
    simp only [TE.rd_mk] at hA
    rw [hA.head]; simp [cD]; omega
theorem let_nd {c : Int} (h : cL c = true) : cN c = false ∧ c ≠ 91 ∧ cD c = false := by
  have hv : 97 ≤ c ∧ c ≤ 122 := by simpa [cL] using h
  exact ⟨by simp [cN]; omega, by omega, by simp [cD]; omega⟩
theorem cls_nd {c : Int} (h : cX c = true) : c ≠ 91 ∧ cN c = false ∧ cD c = false := by
  rcases cX_vals h with rfl | rfl | rfl | rfl <;> decide
theorem opn_nd {c : Int} (h : cO c = true) (h1 : c ≠ 91) : cN c = false ∧ cD c = false := by
  rcases cO_vals h with rfl | rfl | rfl | rfl
  · decide
  · exact absurd rfl h1
  · decide
  · decide
theorem range_front {α : Type} (n : Nat) (f : Nat → α) : (List.range (n + 1)).map f = f 0 :: (List.range n).map (fun k => f (k + 1)) := by
  rw [List.range_succ_eq_map, List.map_cons, List.map_map]; rfl
set_option maxHeartbeats 4000000 in
theorem pg_all : (∀ z, (fun (e : (TE TF)) => ∀ (x i : Nat), e.ok s x → At t i e.rd → i + e.rd.length ≤ t.size → List.Perm (pgT t (i + 1) (e.rd.length - 1)) (e.st.map fun e' => pcS t i (i + e.rd.length) e'.rd)) z) ∧ (∀ z, (fun (fs : TFs) => ∀ (l : List Nat) (i : Nat), (TFs.ok s fs) l → At t i (TFs.rd fs) → i + (TFs.rd fs).length ≤ t.size → List.Perm (pgT t i (TFs.rd fs).length) ((TFs.st fs).map fun fs' => pcS t i (i + (TFs.rd fs).length) (TFs.rd fs'))) z) ∧ (∀ z, (fun (f : TF) => ∀ (p i : Nat), f.ok s p → At t i f.rd → i + f.rd.length ≤ t.size → List.Perm (pgT t i f.rd.length) (f.st.map fun f' => pcS t i (i + f.rd.length) f'.rd)) z) ∧ (∀ z, (fun (es : TEs) => ∀ (x i : Nat) (c : Int), cX c = true → (TEs.ok s es) x → At t i ((TEs.rt es) ++ [c]) → i + (TEs.rt es).length < t.size → List.Perm (pgT t i (TEs.rt es).length) (((List.range (TEs.len es)).map fun k => pcS t i (i + (TEs.rt es).length) (TEs.rt (TEs.del es k))) ++ (TEs.st es).map fun es' => pcS t i (i + (TEs.rt es).length) (TEs.rt es'))) z) := by
  refine tree_ind ?_ ?_ ?_ ?_ ?_ ?_ ?_ ?_
  · intro d fs ihfs x i h hA hz
    simp only [TE.ok_mk] at h
    obtain ⟨hd, a, _, h2⟩ := h
    simp only [TE.rd_mk, TE.st_mk, List.length_cons, List.map_map] at hA hz ⊢
    refine (ihfs _ (i + 1) h2 hA.tail (by omega)).trans (List.Perm.of_eq (List.map_congr_left (fun fs' _ => ?_)))
    simp only [Function.comp, TE.rd_mk]
    have := pc_right (t := t) (j := i + 1 + (TFs.rd fs).length) (C := (TFs.rd fs')) (A := [48 + (d : Int)]) (At.cons hA.head (At.nil _))
    simp only [List.length_cons, List.length_nil, Nat.zero_add, List.cons_append, List.nil_append] at this
    rw [this]; congr 1; omega
  · intro l i h hA hz
    simp [TFs.rd_nil, TFs.rd_cons, TFs.st_nil, TFs.st_cons, pgT]
  · intro f fs ihf ihfs l i h hA hz
    simp only [TFs.ok_nil, TFs.ok_cons] at h
    obtain ⟨p, q, _, h1, h2⟩ := h
    simp only [TFs.rd_nil, TFs.rd_cons] at hA hz
    have hz' : i + (f.rd.length + (TFs.rd fs).length) ≤ t.size := by simpa using hz
    simp only [TFs.rd_nil, TFs.rd_cons, TFs.st_nil, TFs.st_cons, List.length_append, List.map_append, List.map_map]
    rw [pgT_add]
    refine List.Perm.append ((ihf p i h1 hA.left (by omega)).trans (List.Perm.of_eq ?_)) ((ihfs q (i + f.rd.length) h2 hA.right (by omega)).trans (List.Perm.of_eq ?_))
    · refine List.map_congr_left (fun f' _ => ?_)
      simp only [Function.comp, TFs.rd_nil, TFs.rd_cons]
      rw [pc_left hA hz]; simp
    · refine List.map_congr_left (fun fs' _ => ?_)
      simp only [Function.comp, TFs.rd_nil, TFs.rd_cons]
      rw [pc_right hA.left]; congr 1; omega
  · intro c p i h hA hz
    simp only [TF.ok_lt, TF.ok_nm, TF.ok_br] at h
    obtain ⟨h1, h2⟩ := h
    simp only [TF.rd_lt, TF.rd_nm, TF.rd_br, TF.st_lt, TF.st_nm, TF.st_br] at hA hz ⊢
    have hno := let_nd (c := c) (by rw [h2]; exact h1)
    have hb := hA.head
    show List.Perm (pgT t i 1) _
    rw [pgT_no (by rw [hb]; exact hno.2.1) (by rw [hb]; exact hno.1) (by rw [hb]; exact hno.2.2)]
    exact List.Perm.refl _
  · intro c e ihe p i h hA hz
    simp only [TF.ok_lt, TF.ok_nm, TF.ok_br] at h
    obtain ⟨h1, h2, h3⟩ := h
    have hcN : cN c = true := by rw [h2]; exact h1
    have hv : 65 ≤ c ∧ c ≤ 90 := by simpa [cN] using hcN
    simp only [TF.rd_lt, TF.rd_nm, TF.rd_br] at hA hz
    have hm := mt_nm h3 hA
    have hpos := TE.rd_pos e
    have hl : (c :: 40 :: (e.rd ++ [41])).length = 1 + (1 + (1 + (e.rd.length - 1) + 1)) := by simp; omega
    have h41 : bt t ((i + 1 + 1 + e.rd.length : Nat) : Int) = 41 := hA.tail.tail.right.head
    have h40 : bt t ((i + 1 : Nat) : Int) = 40 := hA.tail.head
    have hb := hA.head
    have hnam := namQ_nm hcN h3 hA hz
    have hlt : i + 1 + 1 + e.rd.length < t.size := bt_lt (by rw [h41]; decide)
    simp only [TF.rd_lt, TF.rd_nm, TF.rd_br, TF.st_lt, TF.st_nm, TF.st_br, List.map_append, List.map_map]
    rw [hl] at hz ⊢
    rw [hl] at hnam
    have hone : pgT t i 1 = (namQ t i).map (qT t) := by
      rw [pgT_one]
      unfold plQ
      rw [hb, if_neg (by omega), if_pos hcN, if_neg (by simp [cD]; omega)]; simp
    have hdg : pgT t (i + 1 + 1) 1 = [] := by
      rw [pgT_dig (TE.dig h3 hA.tail.tail.left), eleQ_one h3 (by omega) hA.tail.tail.left hlt (by rw [h41]; decide), if_neg (by rw [h40]; decide)]
    rw [pgT_add, pgT_add, pgT_add, pgT_add, hone, pgT_no (i := i + 1) (by rw [h40]; decide) (by rw [h40]; decide) (by rw [h40]; decide), hdg, show i + 1 + 1 + (1 + (e.rd.length - 1)) = i + 1 + 1 + e.rd.length by omega, pgT_no (i := i + 1 + 1 + e.rd.length) (by rw [h41]; decide) (by rw [h41]; decide) (by rw [h41]; decide)]
    simp only [List.nil_append, List.append_nil]
    refine List.Perm.append hnam ((ihe _ (i + 1 + 1) h3 hA.tail.tail.left (by omega)).trans (List.Perm.of_eq ?_))
    refine List.map_congr_left (fun e' _ => ?_)
    simp only [Function.comp, TF.rd_lt, TF.rd_nm, TF.rd_br]
    have hA3 : At t (i + 1 + 1) (e.rd ++ [41]) := hA.tail.tail
    rw [pc_left hA3 (by simp; omega)]
    have := pc_right (t := t) (j := i + 1 + 1 + (e.rd ++ [41]).length) (C := e'.rd ++ [41]) (A := [c, 40]) (At.cons hb (At.cons h40 (At.nil _)))
    simp only [List.length_cons, List.length_nil, Nat.zero_add, List.cons_append, List.nil_append] at this
    rw [show i + (1 + 1) = i + 1 + 1 by omega] at this
    rw [this]; congr 1; simp; omega
  · intro o es _ ihb p i h hA hz
    simp only [TF.ok_lt, TF.ok_nm, TF.ok_br] at h
    obtain ⟨h1, h2, h5, h3⟩ := h
    have ho : cO o = true := by rw [h2]; exact h1
    have hc0 : cC o ≠ 0 := by simpa [cO] using ho
    have hcx := cX_cC _ hc0
    have hcn := cls_nd hcx
    have hcxv := cX_vals hcx
    have hov := cO_vals ho
    simp only [TF.rd_lt, TF.rd_nm, TF.rd_br] at hA hz
    have hb := hA.head
    have hmt := mt_brk ho hcx (TEs.balr (t := t) es _ h3) hA
    have hcl : bt t ((i + 1 + (TEs.rd es).length : Nat) : Int) = cC o := hA.tail.right.head
    have hlt : i + 1 + (TEs.rd es).length < t.size := bt_lt (by rw [hcl]; exact hc0)
    have hen : enP t i = i + 2 + (TEs.rd es).length := by
      unfold enP en
      rw [if_pos (by omega), if_pos (by rw [hA.head]; exact ho), hmt]; omega
    have hop : pgT t i 1 = if o = 91 then (if 0 < (TEs.rd es).length then [seg t 0 (i + 1) ++ seg t (i + 1 + (TEs.rd es).length) t.size] else []) else [] := by
      by_cases q1 : o = 91
      · rw [if_pos q1, pgT_one]
        unfold plQ
        rw [hA.head, if_pos q1, if_neg (by rw [q1]; decide), if_neg (by rw [q1]; decide)]
        unfold optQ
        rw [hen]
        by_cases q2 : 0 < (TEs.rd es).length
        · rw [if_pos (by omega), if_pos q2]
          simp only [List.append_nil, List.map_cons, List.map_nil]
          rw [qT_cut (by omega) (by omega)]
          rw [show i + 2 + (TEs.rd es).length - 1 = i + 1 + (TEs.rd es).length by omega]
        · rw [if_neg (by omega), if_neg q2]; rfl
      · rw [if_neg q1, pgT_no (by rw [hA.head]; exact q1) (by rw [hA.head]; exact (opn_nd ho q1).1) (by rw [hA.head]; exact (opn_nd ho q1).2)]
    have hone : ∀ j C, pcS t (i + 1) j C = pcS t i j (o :: C) := fun j C => by
      have := pc_right (t := t) (j := j) (C := C) (A := [o]) (At.cons hA.head (At.nil _))
      simpa using this
    have hend : ∀ C, pcS t i (i + 1 + (TEs.rd es).length) C = pcS t i (i + (o :: ((TEs.rd es) ++ [cC o])).length) (C ++ [cC o]) := fun C => by
      unfold pcS
      have hcA : At t (i + 1 + (TEs.rd es).length) [cC o] := hA.tail.right
      rw [seg_rest hcA (by simp; omega), show i + 1 + (TEs.rd es).length + [cC o].length = i + (o :: ((TEs.rd es) ++ [cC o])).length by simp; omega]
      simp
    simp only [TF.rd_lt, TF.rd_nm, TF.rd_br, TF.st_lt, TF.st_nm, TF.st_br, List.map_append, List.map_map]
    cases es with
    | nil =>
      simp only [TEs.rd_nil, TEs.rd_cons, List.nil_append, List.length_nil, Nat.add_zero, List.length_cons] at hA hop hcl hlt ⊢
      have hown : ownN o 0 = 0 := by have := ownN_le o 0; omega
      simp only [TEs.len, TEs.st_nil, TEs.st_cons]
      rw [show (0 + 1 + 1 : Nat) = 1 + 1 from rfl, pgT_add, hop, pgT_no (by rw [hcl]; exact hcn.1) (by rw [hcl]; exact hcn.2.1) (by rw [hcl]; exact hcn.2.2), hown]
      simp
    | cons e es =>
      simp only [TEs.ok_nil, TEs.ok_cons] at h3
      have hpos := TE.rd_pos e
      have hrd : (TEs.rd (e :: es)) = e.rd ++ (TEs.rt es) := by simp only [TEs.rd_nil, TEs.rd_cons]
      have hrl : (TEs.rd (e :: es)).length = e.rd.length + (TEs.rt es).length := by rw [hrd]; simp
      have hA2 := hA.tail.left
      have hA4 : At t (i + 1 + e.rd.length) ((TEs.rt es) ++ [cC o]) := by
        have := hA.tail
        rw [hrd, List.append_assoc] at this
        exact this.right
      rw [hrd] at hA2
      have hL : (o :: ((TEs.rd (e :: es)) ++ [cC o])).length = 1 + (1 + (e.rd.length - 1) + ((TEs.rt es).length + 1)) := by simp [hrl]; omega
      have hz2 : i + 1 + (e.rd ++ (TEs.rt es)).length ≤ t.size := by simp; omega
      have hB := (ihb _ _ rfl).2 _ (i + 1 + e.rd.length) (cC o) hcx h3.2 hA4 (by omega)
      have hT := (ihb _ _ rfl).1 _ (i + 1) h3.1 hA2.left (by omega)
      have hclose : pgT t (i + 1 + e.rd.length + (TEs.rt es).length) 1 = [] := by
        rw [show i + 1 + e.rd.length + (TEs.rt es).length = i + 1 + (TEs.rd (e :: es)).length by omega]
        exact pgT_no (by rw [hcl]; exact hcn.1) (by rw [hcl]; exact hcn.2.1) (by rw [hcl]; exact hcn.2.2)
      have hsplit : pgT t i (o :: ((TEs.rd (e :: es)) ++ [cC o])).length = pgT t i 1 ++ (pgT t (i + 1) 1 ++ (pgT t (i + 1 + 1) (e.rd.length - 1) ++ pgT t (i + 1 + e.rd.length) (TEs.rt es).length)) := by
        rw [hL, pgT_add, pgT_add, pgT_add, pgT_add, show i + 1 + (1 + (e.rd.length - 1)) = i + 1 + e.rd.length by omega, hclose]
        simp
      have hstE : (e.st.map fun e' => pcS t (i + 1) (i + 1 + e.rd.length) e'.rd) = e.st.map fun e' => pcS t i (i + (o :: ((TEs.rd (e :: es)) ++ [cC o])).length) (o :: ((TEs.rd (e' :: es)) ++ [cC o])) := by
        refine List.map_congr_left (fun e' _ => ?_)
        rw [pc_left hA2 hz2, hone, show i + 1 + (e.rd ++ (TEs.rt es)).length = i + 1 + (TEs.rd (e :: es)).length by rw [hrd], hend]
        simp only [TEs.rd_nil, TEs.rd_cons, List.cons_append]
      have hstS : ((TEs.st es).map fun es' => pcS t (i + 1 + e.rd.length) (i + 1 + e.rd.length + (TEs.rt es).length) (TEs.rt es')) = (TEs.st es).map fun es' => pcS t i (i + (o :: ((TEs.rd (e :: es)) ++ [cC o])).length) (o :: ((TEs.rd (e :: es')) ++ [cC o])) := by
        refine List.map_congr_left (fun es' _ => ?_)
        rw [pc_right hA2.left, hone, show i + 1 + e.rd.length + (TEs.rt es).length = i + 1 + (TEs.rd (e :: es)).length by omega, hend]
        simp only [TEs.rd_nil, TEs.rd_cons, List.cons_append]
      have hdlS : ((List.range (TEs.len es)).map fun k => pcS t (i + 1 + e.rd.length) (i + 1 + e.rd.length + (TEs.rt es).length) (TEs.rt (TEs.del es k))) = (List.range (TEs.len es)).map fun k => pcS t i (i + (o :: ((TEs.rd (e :: es)) ++ [cC o])).length) (o :: ((TEs.rd (TEs.del (e :: es) (k + 1))) ++ [cC o])) := by
        refine List.map_congr_left (fun k _ => ?_)
        rw [pc_right hA2.left, hone, show i + 1 + e.rd.length + (TEs.rt es).length = i + 1 + (TEs.rd (e :: es)).length by omega, hend]
        simp only [TEs.del, TEs.rd_nil, TEs.rd_cons, List.cons_append]
      rw [hdlS, hstS] at hB
      rw [hstE] at hT
      have hbo : bt t i ≠ 44 := by rw [hA.head]; omega
      have hdd := TE.dig h3.1 hA2.left
      rw [hsplit]
      simp only [TEs.len, TEs.st_nil, TEs.st_cons, List.map_append, List.map_map, Function.comp_def]
      cases es with
      | nil =>
        simp only [TEs.len, TEs.rd_nil, TEs.rd_cons, TEs.rt_nil, TEs.rt_cons, List.append_nil, List.length_nil, Nat.add_zero, TEs.st_nil, TEs.st_cons, List.map_nil, List.range_zero, TEs.del] at hB hT hA2 hA4 hcl hrd hrl hlt hop hend hL ⊢
        have hB0 := hB.eq_nil
        simp only [TF.rd_lt, TF.rd_nm, TF.rd_br, TEs.rd_nil, TEs.rd_cons, TEs.rt_nil, TEs.rt_cons, List.append_nil]
        rw [hB0, List.append_nil, hop, pgT_dig hdd, eleQ_one h3.1 hbo hA2 hlt (by rw [hcl]; exact hcx), hA.head]
        rcases hov with q | q | q | q
        · rw [q] at hT ⊢
          rw [if_neg (by decide), if_neg (by decide), show ownN 40 (0 + 1) = 0 from rfl]
          simpa using hT
        · rw [q] at hT hend ⊢
          rw [if_pos rfl, if_pos (by omega), if_neg (by decide), show ownN 91 (0 + 1) = 1 from rfl]
          have : seg t 0 (i + 1) ++ seg t (i + 1 + e.rd.length) t.size = pcS t i (i + (91 :: (e.rd ++ [cC 91])).length) (91 :: ([] ++ [cC 91])) := by
            have h1 := hend [91]
            have h2 := hone (i + 1 + e.rd.length) []
            rw [q] at h2
            rw [h1] at h2
            rw [show 91 :: ([] ++ [cC 91]) = [91] ++ [cC 91] from rfl, ← h2]
            simp [pcS]
          rw [this]
          simp only [List.range_one, List.map_cons, List.map_nil, TEs.del, TEs.rd_nil, TEs.rd_cons, List.nil_append, List.singleton_append]
          exact List.Perm.cons _ hT
        · rw [q] at hT hend ⊢
          rw [if_neg (by decide), if_pos rfl, show ownN 123 (0 + 1) = 1 from rfl]
          have : pcS t (i + 1) (i + 1 + e.rd.length) [] = pcS t i (i + (123 :: (e.rd ++ [cC 123])).length) (123 :: ([] ++ [cC 123])) := by
            have h1 := hend [123]
            have h2 := hone (i + 1 + e.rd.length) []
            rw [q] at h2
            rw [h2, h1]; rfl
          rw [this]
          simp only [List.range_one, List.map_cons, List.map_nil, TEs.del, TEs.rd_nil, TEs.rd_cons, List.nil_append, List.singleton_append]
          exact List.Perm.cons _ hT
        · rw [q] at hT ⊢
          rw [if_neg (by decide), if_neg (by decide), show ownN 60 (0 + 1) = 0 from rfl]
          simpa using hT
      | cons e2 es =>
        have hlen : (TEs.len (e :: e2 :: es)) = (TEs.len es) + 2 := by simp [TEs.len]
        have hnot : o ≠ 91 ∧ o ≠ 40 := by
          obtain ⟨o1, o2, o3⟩ := h5
          refine ⟨fun q => ?_, fun q => ?_⟩
          · have := o2 q; omega
          · have := o1 q; omega
        have hown : ownN o ((TEs.len (e2 :: es)) + 1) = (TEs.len (e2 :: es)) + 1 := by
          unfold ownN
          rw [if_neg hnot.1]
          rcases hov with q | q | q | q
          · exact absurd q hnot.2
          · exact absurd q hnot.1
          · rw [if_pos q]
          · rw [if_neg (by rw [q]; decide), if_pos q, if_pos (by simp [TEs.len])]
        have h44 : bt t (i + 1 + e.rd.length : Nat) = 44 := by
          simp only [TEs.rt_nil, TEs.rt_cons] at hA4
          exact hA4.head
        have hrt : (TEs.rt (e2 :: es)) = 44 :: (TEs.rd (e2 :: es)) := by simp only [TEs.rt_nil, TEs.rt_cons, TEs.rd_nil, TEs.rd_cons]
        have hrtl : (TEs.rt (e2 :: es)).length = (TEs.rd (e2 :: es)).length + 1 := by rw [hrt]; simp
        rw [hop, if_neg hnot.1, pgT_dig hdd, eleQ_fst h3.1 hbo hA2.left (by omega) h44, hown, range_front]
        have hfst : pcS t (i + 1) (i + 1 + e.rd.length + 1) [] = pcS t i (i + (o :: ((TEs.rd (e :: e2 :: es)) ++ [cC o])).length) (o :: ((TEs.rd (TEs.del (e :: e2 :: es) 0)) ++ [cC o])) := by
          simp only [TEs.del]
          have hA5 : At t (i + 1 + e.rd.length + 1) ((TEs.rd (e2 :: es)) ++ [cC o]) := by
            rw [hrt] at hA4
            exact hA4.tail
          rw [hone]
          unfold pcS
          rw [seg_rest hA5 (by simp; omega), show i + 1 + e.rd.length + 1 + ((TEs.rd (e2 :: es)) ++ [cC o]).length = i + (o :: ((TEs.rd (e :: e2 :: es)) ++ [cC o])).length by simp only [List.length_append, List.length_cons, List.length_nil]; omega]
          simp
        rw [hfst]
        simp only [TF.rd_lt, TF.rd_nm, TF.rd_br]
        refine List.Perm.cons _ ?_
        exact (List.Perm.append hT hB).trans (perm_mid _ _ _)
  · intro x i c hc h hA hz
    simp [TEs.rt_nil, TEs.rt_cons, TEs.st_nil, TEs.st_cons, TEs.len, pgT]
  · intro e es ihe ihes x i c hc h hA hz
    simp only [TEs.ok_nil, TEs.ok_cons] at h
    have hpos := TE.rd_pos e
    have hrt : (TEs.rt (e :: es)) = 44 :: (e.rd ++ (TEs.rt es)) := by simp only [TEs.rt_nil, TEs.rt_cons]
    rw [hrt] at hA hz
    have hl : (44 :: (e.rd ++ (TEs.rt es))).length = 1 + (1 + (e.rd.length - 1) + (TEs.rt es).length) := by simp; omega
    have hb := hA.head
    have hA1 : At t (i + 1) (e.rd ++ ((TEs.rt es) ++ [c])) := by
      have := hA.tail
      rwa [← List.append_assoc]
    have hA2 : At t (i + 1) (e.rd ++ (TEs.rt es)) := by
      have := hA.left
      exact this.tail
    have hz1 : i + 1 + (e.rd.length + (TEs.rt es).length) < t.size := by rw [hl] at hz; omega
    have hz2 : i + 1 + (e.rd ++ (TEs.rt es)).length ≤ t.size := by simp; omega
    have hx : bt t (i + 1 + e.rd.length : Nat) = 44 ∨ cX (bt t (i + 1 + e.rd.length : Nat)) = true := by
      have hA3 := hA1.right
      cases es with
      | nil =>
        simp only [TEs.rt_nil, TEs.rt_cons, List.nil_append] at hA3
        right; rw [hA3.head]; exact hc
      | cons e2 es =>
        simp only [TEs.rt_nil, TEs.rt_cons] at hA3
        left; exact hA3.head
    have hB := ihes _ (i + 1 + e.rd.length) c hc h.2 hA1.right (by omega)
    have hT := ihe _ (i + 1) h.1 hA2.left (by omega)
    have hone : ∀ j C, pcS t (i + 1) j C = pcS t i j (44 :: C) := fun j C => by
      have := pc_right (t := t) (j := j) (C := C) (A := [44]) (At.cons hb (At.nil _))
      simpa using this
    rw [hrt, hl, pgT_add, pgT_add, pgT_add, pgT_no (by rw [hb]; decide) (by rw [hb]; decide) (by rw [hb]; decide), pgT_dig (TE.dig h.1 hA2.left), eleQ_com h.1 hb hA2.left (by omega) hx, show i + 1 + (1 + (e.rd.length - 1)) = i + 1 + e.rd.length by omega]
    simp only [TEs.len, TEs.st_nil, TEs.st_cons, List.map_append, List.map_map, Function.comp_def, List.nil_append]
    rw [range_front]
    have hfst : pcS t i (i + 1 + e.rd.length) [] = pcS t i (i + (1 + (1 + (e.rd.length - 1) + (TEs.rt es).length))) (TEs.rt (TEs.del (e :: es) 0)) := by
      simp only [TEs.del]
      unfold pcS
      rw [seg_rest hA2.right (by omega), show i + 1 + e.rd.length + (TEs.rt es).length = i + (1 + (1 + (e.rd.length - 1) + (TEs.rt es).length)) by omega]
      simp
    rw [hfst]
    have hstE : (e.st.map fun e' => pcS t (i + 1) (i + 1 + e.rd.length) e'.rd) = e.st.map fun e' => pcS t i (i + (1 + (1 + (e.rd.length - 1) + (TEs.rt es).length))) (TEs.rt (e' :: es)) := by
      refine List.map_congr_left (fun e' _ => ?_)
      rw [pc_left hA2 hz2, hone]
      simp only [TEs.rt_nil, TEs.rt_cons]; congr 1; simp; omega
    have hstS : ((TEs.st es).map fun es' => pcS t (i + 1 + e.rd.length) (i + 1 + e.rd.length + (TEs.rt es).length) (TEs.rt es')) = (TEs.st es).map fun es' => pcS t i (i + (1 + (1 + (e.rd.length - 1) + (TEs.rt es).length))) (TEs.rt (e :: es')) := by
      refine List.map_congr_left (fun es' _ => ?_)
      rw [pc_right hA2.left, hone]
      simp only [TEs.rt_nil, TEs.rt_cons]; congr 1; omega
    have hdlS : ((List.range (TEs.len es)).map fun k => pcS t (i + 1 + e.rd.length) (i + 1 + e.rd.length + (TEs.rt es).length) (TEs.rt (TEs.del es k))) = (List.range (TEs.len es)).map fun k => pcS t i (i + (1 + (1 + (e.rd.length - 1) + (TEs.rt es).length))) (TEs.rt (TEs.del (e :: es) (k + 1))) := by
      refine List.map_congr_left (fun k _ => ?_)
      rw [pc_right hA2.left, hone]
      simp only [TEs.del, TEs.rt_nil, TEs.rt_cons]; congr 1; omega
    rw [hdlS, hstS] at hB
    rw [hstE] at hT
    simp only [List.cons_append]
    refine List.Perm.cons _ ?_
    exact (List.Perm.append hT hB).trans (perm_mid _ _ _)
theorem TE.pg : ∀ (e : (TE TF)) (x i : Nat), e.ok s x → At t i e.rd → i + e.rd.length ≤ t.size → List.Perm (pgT t (i + 1) (e.rd.length - 1)) (e.st.map fun e' => pcS t i (i + e.rd.length) e'.rd) := pg_all.1
theorem TFs.pg : ∀ (fs : TFs) (l : List Nat) (i : Nat), (TFs.ok s fs) l → At t i (TFs.rd fs) → i + (TFs.rd fs).length ≤ t.size → List.Perm (pgT t i (TFs.rd fs).length) ((TFs.st fs).map fun fs' => pcS t i (i + (TFs.rd fs).length) (TFs.rd fs')) := pg_all.2.1
theorem TF.pg : ∀ (f : TF) (p i : Nat), f.ok s p → At t i f.rd → i + f.rd.length ≤ t.size → List.Perm (pgT t i f.rd.length) (f.st.map fun f' => pcS t i (i + f.rd.length) f'.rd) := pg_all.2.2.1
theorem TEs.pg : ∀ (es : TEs) (x i : Nat) (c : Int), cX c = true → (TEs.ok s es) x → At t i ((TEs.rt es) ++ [c]) → i + (TEs.rt es).length < t.size → List.Perm (pgT t i (TEs.rt es).length) (((List.range (TEs.len es)).map fun k => pcS t i (i + (TEs.rt es).length) (TEs.rt (TEs.del es k))) ++ (TEs.st es).map fun es' => pcS t i (i + (TEs.rt es).length) (TEs.rt es')) := pg_all.2.2.2
/-- the texts of the steps that the program finds -/
def prgT (t : ByteArray) : List ByteArray := (allQ t).map fun q => strOfNums (qT t q)
/-- they are those of the steps -/
theorem prg_perm {f : TF} (h : TreeOf s t f) : List.Perm (prgT t) (stpT t) := by
  have h1 := TF.pg f 0 0 h.ok h.at_ (by have := h.sz; omega)
  rw [← h.sz] at h1
  unfold prgT stpT
  rw [stS_all h]
  have e1 : ((allQ t).map fun q => strOfNums (qT t q)) = (pgT t 0 t.size).map strOfNums := by
    unfold allQ pgT
    rw [List.map_flatMap, List.map_flatMap, List.range_eq_range']
    congr 1
    funext j
    rw [List.map_map]; rfl
  rw [e1]
  refine List.Perm.map _ (h1.trans (List.Perm.of_eq (List.map_congr_left (fun f' _ => ?_))))
  simp [pcS, seg_self]
end
end Go.Proofs.YtnfaiaoipeholaaGreatDoor

namespace Go.Proofs.YtnfaiaoipeholaaGreatDoor
set_option linter.unusedSimpArgs false
set_option linter.unusedVariables false
/-- one byte: where parts end, which brackets are open -/
def esT (t : ByteArray) (i : Nat) (S : List Int × List Nat) : List Int × List Nat :=
  if cO (bt t i) = true then (S.1.set i ((i : Int) + 1), S.2 ++ [i])
  else if cX (bt t i) = true ∧ S.2 ≠ [] then ((S.1.set i ((i : Int) + 1)).set (S.2.getLastD 0) ((i : Int) + 1), S.2.dropLast)
  else (S.1.set i ((i : Int) + 1), S.2)
def esF (t : ByteArray) : Nat → Nat → List Int × List Nat → List Int × List Nat
  | 0, _, S => S
  | n + 1, i, S => esF t n (i + 1) (esT t i S)
theorem esF_add (t : ByteArray) : ∀ n m i S, esF t (n + m) i S = esF t m (i + n) (esF t n i S)
  | 0, m, i, S => by simp [esF]
  | n + 1, m, i, S => by
    rw [show n + 1 + m = (n + m) + 1 by omega]
    simp only [esF]
    rw [esF_add t n m (i + 1), show i + 1 + n = i + (n + 1) by omega]
theorem esF_succ (t : ByteArray) (n : Nat) (S : List Int × List Nat) : esF t (n + 1) 0 S = esT t n (esF t n 0 S) := by
  rw [esF_add]; simp [esF]
theorem esT_len (t : ByteArray) (i : Nat) (S : List Int × List Nat) : (esT t i S).1.length = S.1.length := by
  unfold esT
  split
  · simp
  split
  · simp
  · simp
theorem esF_len (t : ByteArray) : ∀ n i S, (esF t n i S).1.length = S.1.length
  | 0, _, _ => rfl
  | n + 1, i, S => by simp only [esF]; rw [esF_len t n, esT_len]
/-- the open ones lie ahead -/
theorem esF_open (t : ByteArray) : ∀ n, (∀ j ∈ (esF t n 0 (List.replicate t.size 0, [])).2, j < n) ∧ (esF t n 0 (List.replicate t.size 0, [])).2.length ≤ n
  | 0 => ⟨fun j hj => by simp [esF] at hj, by simp [esF]⟩
  | n + 1 => by
    obtain ⟨h1, h2⟩ := esF_open t n
    rw [esF_succ]
    generalize esF t n 0 (List.replicate t.size 0, []) = S at h1 h2
    unfold esT
    split
    · simp only
      refine ⟨fun j hj => ?_, by simp; omega⟩
      rcases List.mem_append.1 hj with h | h
      · have := h1 j h; omega
      · simp at h; omega
    split
    · simp only
      refine ⟨fun j hj => ?_, by rw [List.length_dropLast]; omega⟩
      have := h1 j (List.dropLast_subset _ hj)
      omega
    · exact ⟨fun j hj => by have := h1 j hj; omega, by simp only; omega⟩
section
variable {s t : ByteArray}
/-- over these bytes the open ones come back, and the ends are right -/
def BalE (t : ByteArray) (R : List Int) : Prop := ∀ i L O, At t i R → i + R.length ≤ L.length → ∃ L', esF t R.length i (L, O) = (L', O) ∧ L'.length = L.length ∧ (∀ j, (j < i ∨ i + R.length ≤ j) → L'[j]? = L[j]?) ∧ ∀ j, i ≤ j → j < i + R.length → L'[j]? = some ((en t j : Nat) : Int)
theorem BalE.nil : BalE t [] := fun i L O _ _ => ⟨L, rfl, rfl, fun _ _ => rfl, fun j h1 h2 => by simp at h2; omega⟩
theorem BalE.app {A B : List Int} (h : BalE t A) (g : BalE t B) : BalE t (A ++ B) := fun i L O hA hz => by
  simp only [List.length_append] at hz ⊢
  obtain ⟨L1, a1, a2, a3, a4⟩ := h i L O hA.left (by omega)
  obtain ⟨L2, b1, b2, b3, b4⟩ := g (i + A.length) L1 O hA.right (by omega)
  refine ⟨L2, by rw [esF_add, a1, b1], by omega, fun j hj => ?_, fun j h1 h2 => ?_⟩
  · rw [b3 j (by omega), a3 j (by omega)]
  · by_cases e : j < i + A.length
    · rw [b3 j (by omega), a4 j h1 e]
    · exact b4 j (by omega) (by omega)
theorem BalE.one {c : Int} (h1 : cO c = false) (h2 : cX c = false) : BalE t [c] := fun i L O hA hz => by
  simp only [List.length_cons, List.length_nil] at hz ⊢
  have hb := hA.head
  refine ⟨L.set i ((i : Int) + 1), ?_, by simp, fun j hj => ?_, fun j g1 g2 => ?_⟩
  · simp only [esF]
    unfold esT
    rw [hb, if_neg (by simp [h1]), if_neg (by simp [h2])]
  · rw [List.getElem?_set_ne (by omega)]
  · have e : j = i := by omega
    subst e
    rw [List.getElem?_set_self (by omega)]
    unfold en
    rw [if_neg (by rw [hb]; simp [h1])]; rfl
theorem BalE.plain {c : Int} {L : List Int} (h1 : cO c = false) (h2 : cX c = false) (g : BalE t L) : BalE t (c :: L) := BalE.app (BalE.one h1 h2) g
theorem BalE.brk {o c : Int} {R : List Int} (ho : cO o = true) (hc : cX c = true) (gb : Bal t R) (g : BalE t R) : BalE t (o :: (R ++ [c])) := fun i L O hA hz => by
  simp only [List.length_cons, List.length_append, List.length_nil] at hz ⊢
  have hb := hA.head
  have hA2 := hA.tail
  have hcl : bt t ((i + 1 + R.length : Nat) : Int) = c := hA2.right.head
  have hco : cO c = false := (close_not hc).2.2.1
  have hm := mt_brk ho hc gb hA
  obtain ⟨L1, a1, a2, a3, a4⟩ := g (i + 1) (L.set i ((i : Int) + 1)) (O ++ [i]) hA2.left (by simp; omega)
  have a2' : L1.length = L.length := by rw [a2]; simp
  refine ⟨(L1.set (i + 1 + R.length) (((i + 1 + R.length : Nat) : Int) + 1)).set i (((i + 1 + R.length : Nat) : Int) + 1), ?_, by simp; omega, fun j hj => ?_, fun j g1 g2 => ?_⟩
  · rw [show R.length + (0 + 1) + 1 = 1 + (R.length + 1) by omega, esF_add, esF_add]
    have e0 : esF t 1 i (L, O) = (L.set i ((i : Int) + 1), O ++ [i]) := by
      simp only [esF]
      unfold esT
      rw [hb, if_pos ho]
    rw [e0, a1]
    simp only [esF]
    unfold esT
    rw [hcl, if_neg (by simp [hco]), if_pos ⟨hc, by simp⟩]
    simp
  · rw [List.getElem?_set_ne (by omega), List.getElem?_set_ne (by omega), a3 j (by omega), List.getElem?_set_ne (by omega)]
  · by_cases e : j = i
    · subst e
      rw [List.getElem?_set_self (by simp; omega)]
      unfold en
      rw [if_pos (by rw [hb]; exact ho), hm]; rfl
    · rw [List.getElem?_set_ne (by omega)]
      by_cases e2 : j = i + 1 + R.length
      · subst e2
        rw [List.getElem?_set_self (by omega)]
        unfold en
        rw [if_neg (by rw [hcl]; simp [hco])]; rfl
      · rw [List.getElem?_set_ne (by omega)]
        exact a4 j (by omega) (by omega)
theorem balE_all : (∀ z, (fun (e : (TE TF)) => ∀ (x : Nat), e.ok s x → BalE t e.rd) z) ∧ (∀ z, (fun (fs : TFs) => ∀ (l : List Nat), (TFs.ok s fs) l → BalE t (TFs.rd fs)) z) ∧ (∀ z, (fun (f : TF) => ∀ (p : Nat), f.ok s p → BalE t f.rd) z) ∧ (∀ z, (fun (es : TEs) => ∀ (x : Nat), (TEs.ok s es) x → BalE t (TEs.rt es)) z) := by
  refine tree_ind ?_ ?_ ?_ ?_ ?_ ?_ ?_ ?_
  · intro d fs ihfs x h
    simp only [TE.ok_mk] at h
    obtain ⟨hd, a, _, h2⟩ := h
    simp only [TE.rd_mk]
    have hp := pl_dig hd
    exact BalE.plain hp.2.1 hp.2.2.1 (ihfs _ h2)
  · intro l h
    simp only [TFs.rd_nil, TFs.rd_cons]; exact BalE.nil
  · intro f fs ihf ihfs l h
    simp only [TFs.ok_nil, TFs.ok_cons] at h
    obtain ⟨p, q, _, h1, h2⟩ := h
    simp only [TFs.rd_nil, TFs.rd_cons]
    exact (ihf p h1).app (ihfs q h2)
  · intro c p h
    simp only [TF.ok_lt, TF.ok_nm, TF.ok_br] at h
    obtain ⟨h1, h2⟩ := h
    simp only [TF.rd_lt, TF.rd_nm, TF.rd_br]
    have hp := pl_let (c := c) (by rw [h2]; exact h1)
    exact BalE.plain hp.2.1 hp.2.2.1 BalE.nil
  · intro c e ihe p h
    simp only [TF.ok_lt, TF.ok_nm, TF.ok_br] at h
    obtain ⟨h1, h2, h3⟩ := h
    simp only [TF.rd_lt, TF.rd_nm, TF.rd_br]
    have hp := pl_nam (c := c) (by rw [h2]; exact h1)
    exact BalE.plain hp.2.1 hp.2.2.1 (BalE.brk (by decide) (by decide) (TE.bal e _ h3) (ihe _ h3))
  · intro o es _ ihb p h
    simp only [TF.ok_lt, TF.ok_nm, TF.ok_br] at h
    obtain ⟨h1, h2, _, h3⟩ := h
    have hc0 : cC o ≠ 0 := by rw [h2]; simpa [cO] using h1
    simp only [TF.rd_lt, TF.rd_nm, TF.rd_br]
    refine BalE.brk (by rw [h2]; exact h1) (cX_cC _ hc0) (TEs.balr es _ h3) ?_
    cases es with
    | nil => simp only [TEs.rd_nil, TEs.rd_cons]; exact BalE.nil
    | cons e es =>
      simp only [TEs.ok_nil, TEs.ok_cons] at h3
      simp only [TEs.rd_nil, TEs.rd_cons]
      exact ((ihb _ _ rfl).1 _ h3.1).app ((ihb _ _ rfl).2 _ h3.2)
  · intro x h
    simp only [TEs.rt_nil, TEs.rt_cons]; exact BalE.nil
  · intro e es ihe ihes x h
    simp only [TEs.ok_nil, TEs.ok_cons] at h
    simp only [TEs.rt_nil, TEs.rt_cons]
    exact BalE.plain pl_com.1 pl_com.2.1 ((ihe _ h.1).app (ihes _ h.2))
theorem TE.balE : ∀ (e : (TE TF)) (x : Nat), e.ok s x → BalE t e.rd := balE_all.1
theorem TFs.balE : ∀ (fs : TFs) (l : List Nat), (TFs.ok s fs) l → BalE t (TFs.rd fs) := balE_all.2.1
theorem TF.balE : ∀ (f : TF) (p : Nat), f.ok s p → BalE t f.rd := balE_all.2.2.1
theorem TEs.balE : ∀ (es : TEs) (x : Nat), (TEs.ok s es) x → BalE t (TEs.rt es) := balE_all.2.2.2
/-- the ends of a tree's parts -/
def ensL (t : ByteArray) : List Int := (esF t t.size 0 (List.replicate t.size 0, [])).1
theorem ensL_get {f : TF} (h : TreeOf s t f) {j : Nat} (hj : j < t.size) : (ensL t)[j]? = some ((en t j : Nat) : Int) := by
  obtain ⟨L', a1, a2, a3, a4⟩ := TF.balE f 0 h.ok 0 (List.replicate t.size 0) [] h.at_ (by have := h.sz; simp; omega)
  unfold ensL
  rw [h.sz] at a1 hj ⊢
  rw [a1]
  exact a4 j (Nat.zero_le _) (by omega)
/-- every place's part ends behind it, within the text -/
theorem en_bd {j : Nat} (h : j < t.size) : j < en t j ∧ en t j ≤ t.size + 1 := by
  have := mt_bd (t := t) (j := j) (by omega)
  unfold en
  split <;> omega
end
end Go.Proofs.YtnfaiaoipeholaaGreatDoor

namespace Go.Proofs.YtnfaiaoipeholaaGreatDoor
/-- the text of a step -/
def qB (t : ByteArray) (q : Qd) : ByteArray := strOfNums (qT t q)
/-- the first step that changes nothing ahead of a place -/
def ffN (Q : List Qd) (p : Nat) : Nat := (Q.takeWhile fun q => decide (q.1 < p)).length
/-- the step that is asked as the k-th -/
def qK (Q : List Qd) (f k : Nat) : Qd := Q.getD ((f + k) % Q.length) (0, 0, 0, 0)
/-- one step of the way: why it ends (0: it does not), the step, how often it was asked -/
def wkF (c t : ByteArray) (b : Nat) (Q : List Qd) (f : Nat) : Nat → Nat → Nat → Nat × Qd × Nat
  | 0, _, a => (1, (0, 0, 0, 0), a)
  | m + 1, k, a => if b ≤ a then (2, (0, 0, 0, 0), a) else if hld c (wd (qB t (qK Q f k))) = true then (0, qK Q f k, a + 1) else wkF c t b Q f m (k + 1) (a + 1)
def wk (c t : ByteArray) (b p a : Nat) : Nat × Qd × Nat := wkF c t b (allQ t) (ffN (allQ t) p) (allQ t).length 0 a
/-- the way: the further trees, how often it was asked, why it ends -/
def gw (c : ByteArray) (b : Nat) : Nat → ByteArray → Nat → Nat → List ByteArray × Nat × Nat
  | 0, _, _, a => ([], a, 0)
  | m + 1, t, p, a => if (wk c t b p a).1 = 0 then (qB t (wk c t b p a).2.1 :: (gw c b m (qB t (wk c t b p a).2.1) (wk c t b p a).2.1.1 (wk c t b p a).2.2).1, (gw c b m (qB t (wk c t b p a).2.1) (wk c t b p a).2.1.1 (wk c t b p a).2.2).2)
    else ([], (wk c t b p a).2.2, (wk c t b p a).1)
/-- what Reduce answers -/
def rdc (s t c : ByteArray) (b : Int) : ByteArray × Nat × Nat × Int :=
  if rfs s t c b ≠ 0 then (ByteArray.empty, 0, 0, rfs s t c b)
  else (strOfNums (wayL (t :: (gw c b.toNat (t.size + 1) t 0 0).1)), (gw c b.toNat (t.size + 1) t 0 0).2.1, (gw c b.toNat (t.size + 1) t 0 0).2.2, 0)
section
variable {s t c : ByteArray}
theorem ffN_le (Q : List Qd) (p : Nat) : ffN Q p ≤ Q.length := by
  unfold ffN
  exact (List.takeWhile_sublist _).length_le
theorem qK_mem {Q : List Qd} {f k : Nat} (h : 0 < Q.length) : qK Q f k ∈ Q := by
  have hm : (f + k) % Q.length < Q.length := Nat.mod_lt _ h
  unfold qK
  rw [List.getD_eq_getElem?_getD, List.getElem?_eq_getElem hm]
  simp
/-- every step is asked -/
theorem qK_all {Q : List Qd} {f : Nat} {q : Qd} (h : q ∈ Q) : ∃ k, k < Q.length ∧ qK Q f k = q := by
  obtain ⟨n, hn, e⟩ := List.getElem_of_mem h
  have hpos : 0 < Q.length := by omega
  refine ⟨(n + (Q.length - f % Q.length)) % Q.length, Nat.mod_lt _ hpos, ?_⟩
  have hf : f % Q.length < Q.length := Nat.mod_lt _ hpos
  have e2 : (f + (n + (Q.length - f % Q.length)) % Q.length) % Q.length = n := by
    rw [Nat.add_mod_mod, ← Nat.mod_add_mod, show f % Q.length + (n + (Q.length - f % Q.length)) = n + Q.length by omega, Nat.add_mod_right, Nat.mod_eq_of_lt hn]
  unfold qK
  rw [e2, List.getD_eq_getElem?_getD, List.getElem?_eq_getElem hn]
  simpa using e
theorem wkF_ok {b f : Nat} {Q : List Qd} : ∀ m k a, k + m = Q.length → a ≤ b →
    (wkF c t b Q f m k a).2.2 ≤ b ∧ a ≤ (wkF c t b Q f m k a).2.2 ∧ (wkF c t b Q f m k a).2.2 ≤ a + m ∧ (wkF c t b Q f m k a).1 ≤ 2 ∧
    ((wkF c t b Q f m k a).1 = 0 → (wkF c t b Q f m k a).2.1 ∈ Q ∧ hld c (wd (qB t (wkF c t b Q f m k a).2.1)) = true) ∧
    ((wkF c t b Q f m k a).1 = 1 → ∀ j, k ≤ j → j < Q.length → hld c (wd (qB t (qK Q f j))) = false) ∧
    ((wkF c t b Q f m k a).1 = 2 → (wkF c t b Q f m k a).2.2 = b ∧ 0 < Q.length)
  | 0, k, a, h, ha => by
    simp only [wkF]
    exact ⟨ha, Nat.le_refl _, Nat.le_refl _, by omega, by omega, fun _ j h1 h2 => by omega, by omega⟩
  | m + 1, k, a, h, ha => by
    unfold wkF
    split
    · simp only
      exact ⟨ha, Nat.le_refl _, by omega, by omega, by omega, by omega, fun _ => by omega⟩
    rename_i hb
    split
    · rename_i hh
      simp only
      exact ⟨by omega, by omega, by omega, by omega, fun _ => ⟨qK_mem (by omega), hh⟩, by omega, by omega⟩
    · rename_i hh
      obtain ⟨r1, r2, r3, r4, r5, r6, r7⟩ := wkF_ok (b := b) (f := f) (Q := Q) m (k + 1) (a + 1) (by omega) (by omega)
      refine ⟨r1, by omega, by omega, r4, r5, fun h1 j j1 j2 => ?_, r7⟩
      by_cases e : j = k
      · subst e; simpa using hh
      · exact r6 h1 j (by omega) j2
/-- one step of the way -/
theorem wk_ok {f : TF} (h : TreeOf s t f) {b p a : Nat} (ha : a ≤ b) :
    (wk c t b p a).2.2 ≤ b ∧ a ≤ (wk c t b p a).2.2 ∧ (wk c t b p a).2.2 ≤ a + (stpT t).length ∧ (wk c t b p a).1 ≤ 2 ∧
    ((wk c t b p a).1 = 0 → qB t (wk c t b p a).2.1 ∈ stpT t ∧ hld c (wd (qB t (wk c t b p a).2.1)) = true) ∧
    ((wk c t b p a).1 = 1 → ∀ u ∈ stpT t, hld c (wd u) = false) ∧
    ((wk c t b p a).1 = 2 → (wk c t b p a).2.2 = b ∧ 0 < (stpT t).length) := by
  have hp := prg_perm h
  have hl : (allQ t).length = (stpT t).length := by rw [← hp.length_eq]; simp [prgT]
  obtain ⟨r1, r2, r3, r4, r5, r6, r7⟩ := wkF_ok (c := c) (t := t) (b := b) (f := ffN (allQ t) p) (Q := allQ t) (allQ t).length 0 a (by omega) ha
  unfold wk
  refine ⟨r1, r2, by omega, r4, fun h0 => ?_, fun h1 u hu => ?_, fun h2 => by have := r7 h2; omega⟩
  · obtain ⟨q1, q2⟩ := r5 h0
    exact ⟨hp.mem_iff.1 (List.mem_map.2 ⟨_, q1, rfl⟩), q2⟩
  · obtain ⟨q, q1, q2⟩ := List.mem_map.1 (hp.mem_iff.2 hu)
    obtain ⟨k, k1, k2⟩ := qK_all (f := ffN (allQ t) p) q1
    have := r6 h1 k (Nat.zero_le _) k1
    rw [k2] at this
    rw [← q2]; exact this
/-- the way -/
theorem gw_ok (hk : (chk s).1 = 0) {b : Nat} : ∀ (m : Nat) (t : ByteArray) (f : TF) (p a : Nat), TreeOf s t f → t.size < m → a ≤ b →
    Way c t (gw c b m t p a).1 ∧ (gw c b m t p a).2.1 ≤ b ∧ (gw c b m t p a).2.1 ≤ a + (1 + (gw c b m t p a).1.length) * (stpT t).length ∧
    (((gw c b m t p a).2.2 = 1 ∧ ∀ u ∈ stpT (lastT t (gw c b m t p a).1), hld c (wd u) = false) ∨ ((gw c b m t p a).2.2 = 2 ∧ (gw c b m t p a).2.1 = b ∧ 0 < (stpT (lastT t (gw c b m t p a).1)).length))
  | 0, t, f, p, a, _, h, _ => by omega
  | m + 1, t, f, p, a, hT, hm, ha => by
    obtain ⟨r1, r2, r3, r4, r5, r6, r7⟩ := wk_ok (c := c) hT (b := b) (p := p) (a := a) ha
    unfold gw
    split
    · rename_i h0
      obtain ⟨q1, q2⟩ := r5 h0
      obtain ⟨st, f', hf'⟩ := stp_of hk hT q1
      have hsz := st.sz
      have hsn := st.sn
      generalize (wk c t b p a).2.1.1 = pp
      generalize (wk c t b p a).2.2 = aa at *
      generalize qB t (wk c t b p a).2.1 = u at *
      obtain ⟨s1, s2, s3, s4⟩ := gw_ok hk (b := b) m u f' pp aa hf' (by omega) r1
      simp only [lastT, List.length_cons]
      refine ⟨⟨q1, q2, s1⟩, s2, ?_, s4⟩
      have e1 : (1 + (gw c b m u pp aa).1.length) * (stpT u).length ≤ (1 + (gw c b m u pp aa).1.length) * (stpT t).length := Nat.mul_le_mul_left _ hsn
      have e2 : (1 + ((gw c b m u pp aa).1.length + 1)) * (stpT t).length = (1 + (gw c b m u pp aa).1.length) * (stpT t).length + (stpT t).length := by
        rw [show 1 + ((gw c b m u pp aa).1.length + 1) = (1 + (gw c b m u pp aa).1.length) + 1 by omega, Nat.add_mul]; omega
      omega
    · rename_i h0
      simp only [lastT, List.length_nil]
      refine ⟨trivial, r1, by omega, ?_⟩
      by_cases e : (wk c t b p a).1 = 1
      · exact .inl ⟨e, r6 e⟩
      · have e2 : (wk c t b p a).1 = 2 := by omega
        exact .inr ⟨e2, r7 e2⟩
end
end Go.Proofs.YtnfaiaoipeholaaGreatDoor

namespace Go.Proofs.YtnfaiaoipeholaaGreatDoor
def hrG : ByteArray := ⟨#[83, 61, 123, 97, 124, 66, 125, 91, 99, 93, 59, 66, 61, 60, 98, 62, 59]⟩
def hrT : ByteArray := ⟨#[83, 40, 48, 123, 48, 97, 44, 49, 66, 40, 48, 60, 48, 98, 44, 48, 98, 62, 41, 125, 91, 48, 99, 93, 41]⟩
def hrB : ByteArray := ⟨#[98]⟩
def hrZ : ByteArray := ⟨#[83, 40, 48, 123, 49, 66, 40, 48, 60, 48, 98, 62, 41, 125, 91, 93, 41]⟩
def hrW : List ByteArray × Nat × Nat := gw hrB 99 (hrT.size + 1) hrT 0 0
theorem hr_rfs : rfs hrG hrT hrB 99 = 0 := by decide +kernel
theorem hr_why : hrW.2.2 = 1 := by decide +kernel
theorem hr_last : lastT hrT hrW.1 = hrZ := by decide +kernel
theorem hr_some : hrW.1 ≠ [] := by decide +kernel
end Go.Proofs.YtnfaiaoipeholaaGreatDoor
