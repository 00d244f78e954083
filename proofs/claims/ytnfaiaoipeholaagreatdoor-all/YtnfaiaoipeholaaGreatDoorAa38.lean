/- RWithout RSteps RSteps2 -/
import Derived.Test.YtnfaiaoipeholaaGreatDoorAa37
import Derived.Deep.Upon
namespace Go.Proofs.YtnfaiaoipeholaaGreatDoor
open Go.RowKit
theorem erase_ne {α : Type} {E : List α} {j k : Nat} (hj : j < E.length) (h : j ≠ k) : (E.take (j + 1)).eraseIdx k = (E.take j).eraseIdx k ++ [E[j]] := by
  have e : E.take (j + 1) = E.take j ++ [E[j]] := by rw [List.take_add_one, List.getElem?_eq_getElem hj]; rfl
  have hl : (E.take j).length = j := by rw [List.length_take]; omega
  rw [e]
  by_cases hk : k < j
  · rw [List.eraseIdx_append_of_lt_length (by omega)]
  · rw [List.eraseIdx_append_of_length_le (by omega), hl, List.eraseIdx_of_length_le (by simp; omega), List.eraseIdx_of_length_le (by omega)]
theorem erase_eq {α : Type} {E : List α} {k : Nat} (hk : k < E.length) : (E.take (k + 1)).eraseIdx k = (E.take k).eraseIdx k := by
  have e : E.take (k + 1) = E.take k ++ [E[k]] := by rw [List.take_add_one, List.getElem?_eq_getElem hk]; rfl
  have hl : (E.take k).length = k := by rw [List.length_take]; omega
  have h1 : (E.take k ++ [E[k]]).eraseIdx k = E.take k := by
    rw [List.eraseIdx_append_of_length_le (by omega), hl, Nat.sub_self]
    simp
  have h2 : (E.take k).eraseIdx k = E.take k := List.eraseIdx_of_length_le (by omega)
  rw [e, h1, h2]
section
variable {t : ByteArray}
theorem jnS_snoc (p : Nat × Nat) : ∀ A : List (Nat × Nat), jnS t (A ++ [p]) = if A = [] then seg t p.1 p.2 else jnS t A ++ (44 :: seg t p.1 p.2)
  | [] => by simp [jnS]
  | [a] => by simp [jnS]
  | a :: b :: A => by
    have := jnS_snoc p (b :: A)
    rw [if_neg (by simp)] at this
    rw [if_neg (by simp)]
    simp only [List.cons_append, jnS] at this ⊢
    rw [this]; simp
theorem spF_bd {e : Nat} : ∀ n j fr, ∀ p ∈ spF t e n j fr, p.2 ≤ e
  | 0, j, fr, p, h => by simp [spF] at h; rw [h]; exact Nat.le_refl _
  | n + 1, j, fr, p, h => by
    unfold spF at h
    split at h
    · simp at h; rw [h]; exact Nat.le_refl _
    split at h
    · exact spF_bd n _ _ p h
    split at h
    · rcases List.mem_cons.1 h with e | e
      · rw [e]; simp only; omega
      · exact spF_bd n _ _ p e
    · exact spF_bd n _ _ p h
theorem spF_len {e : Nat} : ∀ n j fr, (spF t e n j fr).length ≤ n + 1
  | 0, j, fr => by simp [spF]
  | n + 1, j, fr => by
    unfold spF
    split
    · simp
    split
    · have := spF_len (e := e) n (mt t j + 1) fr; omega
    split
    · have := spF_len (e := e) n (j + 1) (j + 1); simp; omega
    · have := spF_len (e := e) n (j + 1) fr; omega
theorem elS_bd {i : Nat} (hi : i ≤ t.size) : ∀ p ∈ elS t i, p.2 ≤ t.size := fun p hp => by
  unfold elS at hp
  split at hp
  · exact Nat.le_trans (spF_bd _ _ _ p hp) (mt_bd hi).2
  · simp at hp
theorem elS_len (i : Nat) : (elS t i).length ≤ t.size + 1 := by
  unfold elS
  split
  · exact spF_len _ _ _
  · simp
theorem jnS_len {n : Nat} : ∀ A : List (Nat × Nat), (∀ p ∈ A, p.2 ≤ n) → (jnS t A).length ≤ A.length * (n + 1)
  | [], _ => by simp [jnS]
  | [a], h => by
    have := h a (by simp)
    simp only [jnS, List.length_cons, List.length_nil]
    unfold seg; rw [segF_len]; omega
  | a :: b :: A, h => by
    have h1 := h a (by simp)
    have h2 := jnS_len (b :: A) (fun p hp => h p (by simp at hp ⊢; exact .inr hp))
    simp only [jnS, List.length_append, List.length_cons] at h2 ⊢
    have h3 : (seg t a.1 a.2).length ≤ n := by unfold seg; rw [segF_len]; omega
    rw [show (A.length + 1 + 1) * (n + 1) = (A.length + 1) * (n + 1) + (n + 1) by rw [Nat.add_mul (A.length + 1) 1 (n + 1)]; omega]
    omega
/-- what has been written of the list -/
def woT (t : ByteArray) (i k j : Nat) : List Int := seg t 0 (i + 1) ++ jnS t (((elS t i).take j).eraseIdx k)
theorem woT_len {i k j : Nat} (ht : t.size ≤ 2000) (hi : i < t.size) : (woT t i k j).length ≤ 5000000 := by
  unfold woT
  rw [List.length_append]
  have h1 : (seg t 0 (i + 1)).length ≤ 2000 := by unfold seg; rw [segF_len]; omega
  have hm : ∀ p ∈ ((elS t i).take j).eraseIdx k, p.2 ≤ t.size := fun p hp => elS_bd (by omega) p (List.mem_of_mem_take (List.mem_of_mem_eraseIdx hp))
  have h2 := jnS_len (t := t) (n := t.size) _ hm
  have h3 : (((elS t i).take j).eraseIdx k).length ≤ 2001 := by
    have a1 := List.length_eraseIdx_le ((elS t i).take j) k
    have a2 := List.length_take_le j (elS t i)
    have a3 := elS_len (t := t) i
    have a4 : ((elS t i).take j).length ≤ (elS t i).length := by rw [List.length_take]; omega
    omega
  have h4 : (((elS t i).take j).eraseIdx k).length * (t.size + 1) ≤ 2001 * 2001 := Nat.mul_le_mul h3 (by omega)
  omega
theorem woT_start (i k : Nat) : woT t i k 0 = seg t 0 (i + 1) := by unfold woT; simp [jnS]
theorem woT_end (i k : Nat) : woT t i k (elS t i).length ++ seg t (mt t i) t.size = woS t i k := by
  unfold woT woS
  rw [List.take_length, List.append_assoc]
theorem woT_eq {i k : Nat} (h : k < (elS t i).length) : woT t i k (k + 1) = woT t i k k := by unfold woT; rw [erase_eq h]
theorem woT_ne {i k j : Nat} (hj : j < (elS t i).length) (h : j ≠ k) : woT t i k (j + 1) = woT t i k j ++ ((if ((elS t i).take j).eraseIdx k = [] then [] else [44]) ++ seg t (elS t i)[j].1 (elS t i)[j].2) := by
  unfold woT
  rw [erase_ne hj h, jnS_snoc]
  by_cases e : ((elS t i).take j).eraseIdx k = []
  · rw [if_pos e, if_pos e, e]; simp [jnS]
  · rw [if_neg e, if_neg e]; simp
/-- is nothing written yet? -/
def woF (t : ByteArray) (i k j : Nat) : Bool := decide (((elS t i).take j).eraseIdx k = [])
theorem woF_eq {i k : Nat} (h : k < (elS t i).length) : woF t i k (k + 1) = woF t i k k := by unfold woF; rw [erase_eq h]
theorem woF_ne {i k j : Nat} (hj : j < (elS t i).length) (h : j ≠ k) : woF t i k (j + 1) = false := by unfold woF; rw [erase_ne hj h]; simp

set_option maxHeartbeats 1000000 in
set_option maxRecDepth 1000000 in
theorem without_any (q r : Int) (i k : Nat) (w : World) (ht : t.size ≤ 2000) (hq : q = i) (hr : r = k) (hi : i < t.size) :
    Calls Tryz.prog 81 #[.string t, .int .i64 q, .int .i64 r] w fun e w' => e = .returned (.string (strOfNums (woS t i k))) ∧ Below w.heap.size w w' := by
  subst hq hr
  have hmb := mt_bd (t := t) (j := i) (by omega)
  obtain ⟨hm1, hm2⟩ := hmb
  have HR := hide (woT_end (t := t) i k)
  have HL := hide (fun j => woT_len (k := k) (j := j) ht hi)
  have hel := elS_len (t := t) i
  have hx0 : t.extract 0 (i + 1) = strOfNums (woT t i k 0) := by rw [woT_start, ext_seg t (by omega)]
  go_enter Tryz.func81, Tryz.ntmps81
  go_wp2_with fail
  refine (elements_full t _ i _ ht rfl hi).mono ?_
  rintro e w1 ⟨v, rfl, hown, hb1⟩
  have HB := hide hb1
  obtain ⟨ao, cap, rfl, hcs⟩ : ∃ ao cap, v = .slice ao (elS t i).length cap ∧ ∀ j (hj : j < (elS t i).length), ∃ g, ao = some ⟨g, 0, none⟩ ∧ (elS t i).length ≤ cap ∧ w1.cell? ⟨g, j, none⟩ = some (.string (t.extract (elS t i)[j].1 (elS t i)[j].2)) := by
    rcases hown.2 with ⟨e, h0⟩ | ⟨g, cap, cur, e, _, _, hc, _⟩
    · exact ⟨none, 0, by rw [e, h0], fun j hj => by omega⟩
    · refine ⟨some ⟨g, 0, none⟩, cap, e, fun j hj => ⟨g, rfl, hc, ?_⟩⟩
      subst e
      rw [hown.cellAt j (by omega)]
      unfold pcs
      rw [List.getElem?_map, List.getElem?_eq_getElem hj]; rfl
  have HC := hide hcs
  clear hown hb1 hcs
  go_wp2_with fail
  clear hx0
  go_loop [8, 9, 10] (fun sv fv jv => ∃ j : Nat, jv = .int .i64 j ∧ sv = .string (strOfNums (woT t i k j)) ∧ fv = .bool (woF t i k j) ∧ j ≤ (elS t i).length) (fun _ _ jv => (elS t i).length - (intOf jv).toNat)
  case atStart => exact ⟨0, rfl, rfl, by unfold woF; simp, Nat.zero_le _⟩
  case round =>
    obtain ⟨j, rfl, rfl, rfl, hj⟩ := hrel
    by_cases hlt : j < (elS t i).length
    · obtain ⟨g, rfl, hcap, c0⟩ := unhide HC j hlt
      have hbd := elS_bd (t := t) (i := i) (by omega) _ (List.getElem_mem hlt)
      by_cases hjk : j = k
      · subst hjk
        have e1 := woT_eq (t := t) hlt
        have e2 := woF_eq (t := t) hlt
        have E1 := hide e1
        have E2 := hide e2
        clear e1 e2
        go_wp2
        go_round
        case rel => exact ⟨j + 1, by go_num, by rw [unhide E1], by rw [unhide E2], by omega⟩
        case measure => simp [intOf]; omega
      · have hjk' : ((j : Int) == (k : Int)) = false := by simp; omega
        have e1 := woT_ne (t := t) hlt hjk
        have e2 := woF_ne (t := t) hlt hjk
        have hx : t.extract (elS t i)[j].1 (elS t i)[j].2 = strOfNums (seg t (elS t i)[j].1 (elS t i)[j].2) := ext_seg t hbd
        rw [hx] at c0
        have hl1 := unhide HL j
        have hl2 := unhide HL (j + 1)
        rw [e1] at hl2
        generalize (elS t i)[j] = pp at *
        have hsz1 := strOfNums_size (woT t i k j)
        have hsz2 := strOfNums_size (seg t pp.1 pp.2)
        cases hF : woF t i k j
        · have hne : ¬ ((elS t i).take j).eraseIdx k = [] := by unfold woF at hF; simpa using hF
          rw [if_neg hne] at e1 hl2
          have hsz3 := strOfNums_size (woT t i k j ++ [44])
          have hc44 : strOfNums (woT t i k j) ++ (⟨#[44]⟩ : ByteArray) = strOfNums (woT t i k j ++ [44]) := by rw [← strs_app]; rfl
          have E1 := hide e1
          have E2 := hide e2
          have hcc := hide (strs_app (woT t i k j ++ [44]) (seg t pp.1 pp.2))
          simp only [List.length_append, List.length_cons, List.length_nil] at hl2 hsz3
          clear e1 e2 hx hjk
          go_wp2
          go_round
          case rel => exact ⟨j + 1, by go_num, by rw [unhide E1, unhide hcc, List.append_assoc], by rw [unhide E2], by omega⟩
          case measure => simp [intOf]; omega
        · have hne : ((elS t i).take j).eraseIdx k = [] := by unfold woF at hF; simpa using hF
          rw [if_pos hne, List.nil_append] at e1
          have E1 := hide e1
          have E2 := hide e2
          have hcc := hide (strs_app (woT t i k j) (seg t pp.1 pp.2))
          simp only [List.length_append] at hl2
          clear e1 e2 hx hjk
          go_wp2
          go_round
          case rel => exact ⟨j + 1, by go_num, by rw [unhide E1, unhide hcc], by rw [unhide E2], by omega⟩
          case measure => simp [intOf]; omega
    · have e : j = (elS t i).length := by omega
      subst e
      have hx : t.extract (mt t i) t.size = strOfNums (seg t (mt t i) t.size) := ext_seg t (Nat.le_refl _)
      have hl1 := unhide HL (elS t i).length
      have hsz1 := strOfNums_size (woT t i k (elS t i).length)
      have hsz2 : (strOfNums (seg t (mt t i) t.size)).size = t.size - mt t i := by rw [strOfNums_size]; unfold seg; rw [segF_len]
      go_wp2_with (first | (go_at_call 130; refine (match_any t _ i _ ht rfl (by omega)).mono ?_; rintro e w' ⟨rfl, hw⟩; replace hw := hw.symm; subst hw))
      go_ret
      refine ⟨?_, unhide HB⟩
      rw [← unhide HR, ← strs_app]; rfl
end
end Go.Proofs.YtnfaiaoipeholaaGreatDoor

namespace Go.Proofs.YtnfaiaoipeholaaGreatDoor
open Go.RowKit
/-- a row of texts behind another -/
theorem run_more {w : World} {base n : Nat} {v : Value} {xs : List Value} (hown : w.ownsRow base 9 1 v n xs) {B2 : Nat} {mv : Value} {L : List ByteArray} (hm : w.ownsRow B2 9 1 mv L.length (txs L)) (hb : n + L.length ≤ 100000000) (hbase : base ≤ w.heap.size) (ty : TypeId) :
    ∃ v' w', (Builtin.append_ #[24, 24] ty #[v, mv]).run Tryz.prog w = .ok v' w' ∧ w'.ownsRow base 9 1 v' (n + L.length) (xs ++ txs L) ∧ w.grownBy w' v.ownBlock := by
  obtain ⟨i1, hi1, hy0, hy1, hy2⟩ := info_parts Tryz.infoStr
  by_cases hL : L = []
  · subst hL
    have hx : xs ++ txs [] = xs := by simp [txs]
    obtain ⟨ao, cap, hv, hle⟩ : ∃ ao cap, v = .slice ao n cap ∧ n ≤ cap := by
      rcases hown.2 with ⟨e, h0⟩ | ⟨g, cap, _, e, _, _, hc, _⟩
      · exact ⟨none, 0, by rw [e, h0], by omega⟩
      · exact ⟨_, cap, e, hc⟩
    have hs : Src Tryz.prog i1.size 24 mv 0 [] w := by
      rw [hy1]
      rcases hm.2 with ⟨e, _⟩ | ⟨g, cap, _, e, _⟩
      · rw [e]; exact Src.ofNil w Tryz.underlying24 0
      · rw [e]; exact Src.ofSlice w Tryz.underlying24 ⟨g, 0, none⟩ 0 cap [] (by simp) (fun j u hu => by simp at hu) (fun u hu => by simp at hu)
    refine ⟨v, w, ?_, by rw [hx]; exact hown, ⟨rfl, rfl, rfl, Nat.le_refl _, fun _ _ _ => rfl⟩⟩
    rw [hv]
    exact run_append_nothing w 24 24 ty 9 i1 Tryz.underlying24 hi1 ao n cap hle mv hs
  · have hpos : 0 < L.length := by
      rcases Nat.eq_zero_or_pos L.length with e | e
      · exact absurd (List.length_eq_zero_iff.1 e) hL
      · exact e
    obtain ⟨g, cap, rfl, _, _⟩ := hm.form hpos
    obtain ⟨g1, cap1, w', hr, h2, h3, _, _⟩ := run_append_lies (P := Tryz.prog) w 24 ty base 9 i1 _ 1 16 Tryz.underlying24 hi1 hy0 hy1 hy2 rfl (by decide) v n xs hown ⟨g, 0, none⟩ L.length cap (txs L) (by rw [txs_len, Nat.mul_one]) (hm.cells (g := g) rfl) (fun u hu => by simp [txs] at hu; obtain ⟨x, _, rfl⟩ := hu; rfl) hpos (by unfold maxLen; omega) (by omega) hbase _ rfl
    exact ⟨_, w', hr, h2, h3⟩
/-- for the walk -/
theorem wpList_join {w : World} {base n : Nat} {v : Value} {xs : List Value} {ops : Array Oper} {rest : List Oper} {o : Oper} {a : Act} {Q : Exit → Act → World → Prop} (hgd : o.guard = none) (sl x : Operand)
    (ho : o.op = .call { callee := .builtin .append, args := #[sl, x], argTypes := #[24, 24] }) (hs : a.eval sl = v) (hown : w.ownsRow base 9 1 v n xs) {B2 : Nat} {mv : Value} {L : List ByteArray} (hx : a.eval x = mv) (hm : w.ownsRow B2 9 1 mv L.length (txs L)) (hb : n + L.length ≤ 100000000) (hbase : base ≤ w.heap.size)
    (hK : ∀ v' w', w'.ownsRow base 9 1 v' (n + L.length) (xs ++ txs L) → w.grownBy w' v.ownBlock → wpList Tryz.prog ops Q rest (a.put o.dst v') w') : wpList Tryz.prog ops Q (o :: rest) a w := by
  refine wpList_plain hgd fun K hk => ?_
  obtain ⟨v', w', hr, h2, h3⟩ := run_more hown hm hb hbase o.type
  unfold Oper.wp execOp
  simp only [ho, resolve, invoke, builtin, Sem.run_bind, Sem.run_pure, Result.andThen_ok, List.map_toArray, List.map_cons, List.map_nil, hs, hx, hr]
  exact hk _ _ (hK v' w' h2 h3)
section
variable {s t : ByteArray} {f : TF}
theorem stS_len (i : Nat) (ht : t.size ≤ 2000) : (stS t i).length ≤ 2001 := by
  unfold stS
  split
  · unfold wnS
    rw [List.length_map]
    have h1 := nmS_le t (bt t i) (i + 2) (mt t (i + 1) - (i + 2))
    by_cases h : i + 1 ≤ t.size
    · have := (mt_bd (t := t) h).2; omega
    · have e : mt t (i + 1) = t.size := by
        unfold mt mtD
        rw [show t.size - (i + 1) = 0 by omega]; rfl
      omega
  split
  · simp
  split
  · rw [List.length_map, List.length_range]
    have := elS_len (t := t) i; omega
  · simp
theorem rgS_len (ht : t.size ≤ 2000) : ∀ n, (rgS t 0 n).length ≤ n * 2001
  | 0 => by simp [rgS]
  | n + 1 => by
    have h1 := rgS_len ht n
    have h2 := stS_len (0 + n) ht
    rw [rgS_add, rgS_one, List.length_append]; omega
/-- the texts of the steps ahead of a place -/
def upT (t : ByteArray) (i : Nat) : List ByteArray := (rgS t 0 i).map strOfNums
theorem upT_succ (i : Nat) : upT t (i + 1) = upT t i ++ (stS t i).map strOfNums := by
  unfold upT
  rw [rgS_add, rgS_one, List.map_append, Nat.zero_add]
theorem upT_len (ht : t.size ≤ 2000) (n : Nat) : (upT t n).length ≤ n * 2001 := by
  unfold upT; rw [List.length_map]; exact rgS_len ht n
/-- at the last place there is no step -/
theorem last_no (h : TreeOf s t f) : upT t (t.size - 1) = stpT t := by
  have hpos : 0 < t.size := by
    have := h.sz
    rcases f with ⟨c, _ | e | es⟩
    · simp [TF.rd_lt] at this; omega
    · simp [TF.rd_nm] at this; omega
    · simp [TF.rd_br] at this; omega
  have e : stpT t = upT t t.size := rfl
  rw [e, show t.size = (t.size - 1) + 1 by omega, upT_succ, Nat.add_sub_cancel]
  have hz := h.sz
  have hA := h.at_
  have hno : stS t (t.size - 1) = [] := by
    rcases f with ⟨c, _ | e | es⟩
    · have hk := h.ok
      simp only [TF.ok_lt] at hk
      simp only [TF.rd_lt, List.length_cons, List.length_nil] at hz hA
      have hb := hA.head
      have hn := let_nn (c := c) (by rw [hk.2]; exact hk.1)
      rw [show t.size - 1 = 0 by omega]
      exact stS_no (by rw [hb]; exact hn.1) (by rw [hb]; exact hn.2.1) (by rw [hb]; exact hn.2.2.1) (by rw [hb]; exact hn.2.2.2)
    · simp only [TF.rd_nm, List.length_cons, List.length_append, List.length_nil] at hz hA
      have hb : bt t ((0 + 1 + 1 + e.rd.length : Nat) : Int) = 41 := hA.tail.tail.right.head
      rw [show t.size - 1 = 0 + 1 + 1 + e.rd.length by omega]
      exact stS_no (by rw [hb]; decide) (by rw [hb]; decide) (by rw [hb]; decide) (by rw [hb]; decide)
    · have hk := h.ok
      simp only [TF.ok_br] at hk
      have hc0 : cC c ≠ 0 := by rw [hk.2.1]; simpa [cO] using hk.1
      have hcn := cls_no (cX_cC _ hc0)
      simp only [TF.rd_br, List.length_cons, List.length_append, List.length_nil] at hz hA
      have hb : bt t ((0 + 1 + (TEs.rd es).length : Nat) : Int) = cC c := hA.tail.right.head
      rw [show t.size - 1 = 0 + 1 + (TEs.rd es).length by omega]
      exact stS_no (by rw [hb]; exact hcn.1) (by rw [hb]; exact hcn.2.1) (by rw [hb]; exact hcn.2.2.1) (by rw [hb]; exact hcn.2.2.2)
  rw [hno]; simp
/-- the texts of a list's own steps -/
def woL (t : ByteArray) (i n : Nat) : List ByteArray := (List.range n).map fun k => strOfNums (woS t i k)
theorem woL_succ (i n : Nat) : woL t i (n + 1) = woL t i n ++ [strOfNums (woS t i n)] := by
  unfold woL; rw [List.range_succ, List.map_append]; rfl
theorem owns_on {w w' : World} {base n : Nat} {v : Value} {xs : List Value} (h : w.ownsRow base 9 1 v n xs) (hb : Below w.heap.size w w') : w'.ownsRow base 9 1 v n xs :=
  h.kept (row := none) ⟨hb.os, hb.tape, hb.output, hb.size, fun k hk _ => hb.block k hk⟩ (by
    cases hv : v.ownBlock with
    | none => exact .inl rfl
    | some k => exact .inr (fun e => by cases e))
end
end Go.Proofs.YtnfaiaoipeholaaGreatDoor

namespace Go.Proofs.YtnfaiaoipeholaaGreatDoor
open Go.RowKit
section
variable {s t : ByteArray} {f : TF}
/-- what the walk keeps -/
structure StI (t : ByteArray) (w wr : World) (ov : Value) (L : List ByteArray) : Prop where
  own : wr.ownsRow w.heap.size 9 1 ov L.length (txs L)
  bel : Below w.heap.size w wr
theorem StI.on {w wr w' : World} {ov : Value} {L : List ByteArray} (h : StI t w wr ov L) (hb : Below wr.heap.size wr w') : StI t w w' ov L :=
  ⟨owns_on h.own hb, h.bel.trans (hb.mono h.bel.size)⟩

set_option maxHeartbeats 2000000 in
set_option maxRecDepth 1000000 in
theorem refSteps_any (hT : TreeOf s t f) (w : World) : Calls Tryz.prog 42 #[.string t] w fun e w' => OutT (stpT t) w e w' := by
  have ht := hT.le
  rw [← last_no hT]
  have HT := hide hT
  have HU := hide (fun n => upT_len ht n)
  obtain ⟨i1, hi1, hy0, hy1, hy2⟩ := info_parts Tryz.infoStr
  clear hT
  go_enter Tryz.func42, Tryz.ntmps42
  go_wp2_with fail
  go_loopw [3, 4] (fun ov iv wr => ∃ (i : Nat) (ov' : Value), iv = .int .i64 i ∧ ov = ov' ∧ (i ≤ t.size - 1) ∧ Hid (StI t w wr ov' (upT t i))) (fun _ iv _ => t.size - (intOf iv).toNat)
  case atStart => exact ⟨0, _, rfl, rfl, Nat.zero_le _, hide ⟨by unfold upT; exact World.ownsRow_nil w w.heap.size 9 1, Below.refl _ _⟩⟩
  case round =>
    obtain ⟨i, ov, rfl, hov, hi, hI⟩ := hrel
    replace hov := hov.symm
    subst hov
    by_cases hlt : i + 1 < t.size
    · have hil : i < t.size := by omega
      have hbt := bt_at t i hil
      have hbd := (t[i]).toNat_lt
      have hst := upT_succ (t := t) i
      have hul := unhide HU i
      have hu9 : i * 2001 ≤ 2000 * 2001 := Nat.mul_le_mul_right _ (by omega)
      have hel := elS_len (t := t) i
      unfold stS at hst
      rw [hbt] at hst
      have HN : Hid (cN ((t[i].toNat : Nat) : Int) = true → cN (bt t i) = true) := hide (fun h => by rw [hbt]; exact h)
      generalize hx : ((t[i].toNat : Nat) : Int) = x at *
      cases h1 : cN x
      · rw [if_neg (by rw [h1]; decide)] at hst
        have H1 := hide h1
        by_cases h91 : x = 91 ∧ (elS t i).length = 1
        · rw [if_pos h91] at hst
          obtain ⟨rfl, hl1⟩ := h91
          have HST := hide hst
          clear hst h1 hbt
          go_wp2_with (first
            | (go_at_call 31; refine (name_any _ _).mono ?_; rw [unhide H1]; rintro e w' ⟨rfl, hw⟩; replace hw := hw.symm; subst hw)
            | fail)
          refine (elements_full t _ i _ ht rfl hil).mono ?_
          rintro e w1 ⟨lv, rfl, hlo, hb1⟩
          have hI1 := hide ((unhide hI).on hb1)
          obtain ⟨ao, cap, rfl⟩ : ∃ ao cap, lv = .slice ao (elS t i).length cap := by
            rcases hlo.2 with ⟨e, h0⟩ | ⟨g, cap, _, e, _⟩
            · exact ⟨none, 0, by rw [e, h0]⟩
            · exact ⟨_, cap, e⟩
          clear hlo hb1
          generalize (elS t i).length = n at *
          subst hl1
          go_wp2_with fail
          refine (without_any _ _ i 0 _ ht rfl rfl hil).mono ?_
          rintro e w2 ⟨rfl, hb2⟩
          have hI2 := (unhide hI1).on hb2
          have hown := hI2.own
          have hbel := hI2.bel
          have HI2 := hide hI2
          clear hI2 hb2 hI1
          go_wp2_with (first | (at_builtin; refine wpList_append_lies _ rfl _ _ 24 rfl w.heap.size 9 i1 (.string ⟨#[]⟩) 1 16 Tryz.underlying24 hi1 hy0 hy1 hy2 rfl (by decide) _ _ _ rfl (hown.alloc _) ⟨_, 0, none⟩ 1 1 [.string (strOfNums (woS t i 0))] rfl rfl ?c1 ?c2 ?c3 ?c4 ?c5 ?c6 _ rfl ?_))
          case c1 => exact World.news_of_block (heap_alloc_new _ _)
          case c2 => intro u hu; simp at hu; subst hu; rfl
          case c3 => omega
          case c4 => unfold maxLen; omega
          case c5 => omega
          case c6 => have := hbel.size; simp; omega
          · intro g1 cap1 w3 hown3 hg3 hb3 hlt3
            have HI3 : Hid (StI t w w3 (.slice (some ⟨g1, 0, none⟩) ((upT t i).length + 1) cap1) (upT t (i + 1))) := hide ⟨by
              rw [unhide HST, List.map_cons, List.map_nil, txs_push, List.length_append]; exact hown3, (hbel.alloc hbel.size _).grown hg3 (by have := hbel.size; simp; omega) (fun j hj => (hown.lt j hj).1)⟩
            clear hown3 hg3 hb3 hlt3 hown hbel HI2 hI
            go_wp2
            go_roundw
            case rel => exact ⟨i + 1, _, by go_num, rfl, by omega, HI3⟩
            case measure => simp [intOf]; omega
        · rw [if_neg h91] at hst
          by_cases h123 : x = 123 ∨ (x = 60 ∧ 1 < (elS t i).length)
          · rw [if_pos h123] at hst
            have hwl : upT t (i + 1) = upT t i ++ woL t i (elS t i).length := by
              rw [hst, List.map_map]; rfl
            have HST := hide hwl
            have h1' : x = 91 → False := by rintro rfl; rcases h123 with h | h; exact absurd h (by decide); exact absurd h.1 (by decide)
            have hb91 : (x == 91) = false := by simpa using h1'
            have hsw : Hid (x = 123 ∨ ((x == 123) = false ∧ (x == 60) = true ∧ 1 < (elS t i).length)) := hide (by
              rcases h123 with h | ⟨h, h'⟩
              · exact .inl h
              · exact .inr ⟨by rw [h]; decide, by rw [h]; decide, h'⟩)
            clear hst h1 hbt h123 h91 hwl h1'
            go_wp2_with (first
              | (go_at_call 31; refine (name_any _ _).mono ?_; rw [unhide H1]; rintro e w' ⟨rfl, hw⟩; replace hw := hw.symm; subst hw)
              | fail)
            refine (elements_full t _ i _ ht rfl hil).mono ?_
            rintro e w1 ⟨lv, rfl, hlo, hb1⟩
            have hI1 := hide ((unhide hI).on hb1)
            obtain ⟨ao, cap, rfl⟩ : ∃ ao cap, lv = .slice ao (elS t i).length cap := by
              rcases hlo.2 with ⟨e, h0⟩ | ⟨g, cap, _, e, _⟩
              · exact ⟨none, 0, by rw [e, h0]⟩
              · exact ⟨_, cap, e⟩
            clear hlo hb1 hI
            generalize (elS t i).length = n at *
            rcases unhide hsw with h123 | ⟨g1, g2, g3⟩
            · have hb123 : (x == 123) = true := by simp [h123]
              clear hsw h123
              go_wp2_with fail
              go_loopw [3, 8] (fun ov kv wr => ∃ (k : Nat) (ov' : Value), kv = .int .i64 k ∧ ov = ov' ∧ k ≤ n ∧ Hid (StI t w wr ov' (upT t i ++ woL t i k))) (fun _ kv _ => n - (intOf kv).toNat)
              case atStart => exact ⟨0, _, rfl, rfl, Nat.zero_le _, hide (by rw [show woL t i 0 = [] from rfl, List.append_nil]; exact unhide hI1)⟩
              case round =>
                obtain ⟨k, ov2, rfl, hov2, hk, hI2⟩ := hrel
                replace hov2 := hov2.symm
                subst hov2
                by_cases hkn : k < n
                · go_wp2_with fail
                  refine (without_any _ _ i k _ ht rfl rfl hil).mono ?_
                  rintro e w3 ⟨rfl, hb3⟩
                  have hI3 := (unhide hI2).on hb3
                  have hown := hI3.own
                  have hbel := hI3.bel
                  have hwl : (woL t i k).length = k := by unfold woL; simp
                  have hll : (upT t i ++ woL t i k).length ≤ 9000000 := by rw [List.length_append, hwl]; omega
                  clear hI3 hb3 hI2
                  generalize hLL : (upT t i ++ woL t i k) = LL at *
                  go_wp2_with (first | (at_builtin; refine wpList_append_lies _ rfl _ _ 24 rfl w.heap.size 9 i1 (.string ⟨#[]⟩) 1 16 Tryz.underlying24 hi1 hy0 hy1 hy2 rfl (by decide) _ _ _ rfl (hown.alloc _) ⟨_, 0, none⟩ 1 1 [.string (strOfNums (woS t i k))] rfl rfl ?c1 ?c2 ?c3 ?c4 ?c5 ?c6 _ rfl ?_))
                  case c1 => exact World.news_of_block (heap_alloc_new _ _)
                  case c2 => intro u hu; simp at hu; subst hu; rfl
                  case c3 => omega
                  case c4 => unfold maxLen; omega
                  case c5 => omega
                  case c6 => have := hbel.size; simp; omega
                  · intro g9 cap9 w4 hown4 hg4 hb4 hlt4
                    have HI4 : Hid (StI t w w4 (.slice (some ⟨g9, 0, none⟩) (LL.length + 1) cap9) (upT t i ++ woL t i (k + 1))) := hide ⟨by
                      rw [woL_succ, ← List.append_assoc, hLL, txs_push, List.length_append]; exact hown4, (hbel.alloc hbel.size _).grown hg4 (by have := hbel.size; simp; omega) (fun j hj => (hown.lt j hj).1)⟩
                    clear hown4 hg4 hb4 hlt4 hown hbel
                    go_wp2
                    go_roundw
                    case rel => exact ⟨k + 1, _, by go_num, rfl, by omega, HI4⟩
                    case measure => simp [intOf]; omega
                · have e : k = n := by omega
                  subst e
                  have HI4 : Hid (StI t w wr ov2 (upT t (i + 1))) := hide (by rw [unhide HST]; exact unhide hI2)
                  clear hI2
                  go_wp2
                  go_roundw
                  case rel => exact ⟨i + 1, _, by go_num, rfl, by omega, HI4⟩
                  case measure => simp [intOf]; omega
            · have g5 : decide (1 < n) = true := by simp; omega
              have g6 : decide ((1 : Int) < (n : Int)) = true := by simp; omega
              clear hsw
              go_wp2_with fail
              go_loopw [3, 8] (fun ov kv wr => ∃ (k : Nat) (ov' : Value), kv = .int .i64 k ∧ ov = ov' ∧ k ≤ n ∧ Hid (StI t w wr ov' (upT t i ++ woL t i k))) (fun _ kv _ => n - (intOf kv).toNat)
              case atStart => exact ⟨0, _, rfl, rfl, Nat.zero_le _, hide (by rw [show woL t i 0 = [] from rfl, List.append_nil]; exact unhide hI1)⟩
              case round =>
                obtain ⟨k, ov2, rfl, hov2, hk, hI2⟩ := hrel
                replace hov2 := hov2.symm
                subst hov2
                by_cases hkn : k < n
                · go_wp2_with fail
                  refine (without_any _ _ i k _ ht rfl rfl hil).mono ?_
                  rintro e w3 ⟨rfl, hb3⟩
                  have hI3 := (unhide hI2).on hb3
                  have hown := hI3.own
                  have hbel := hI3.bel
                  have hwl : (woL t i k).length = k := by unfold woL; simp
                  have hll : (upT t i ++ woL t i k).length ≤ 9000000 := by rw [List.length_append, hwl]; omega
                  clear hI3 hb3 hI2
                  generalize hLL : (upT t i ++ woL t i k) = LL at *
                  go_wp2_with (first | (at_builtin; refine wpList_append_lies _ rfl _ _ 24 rfl w.heap.size 9 i1 (.string ⟨#[]⟩) 1 16 Tryz.underlying24 hi1 hy0 hy1 hy2 rfl (by decide) _ _ _ rfl (hown.alloc _) ⟨_, 0, none⟩ 1 1 [.string (strOfNums (woS t i k))] rfl rfl ?c1 ?c2 ?c3 ?c4 ?c5 ?c6 _ rfl ?_))
                  case c1 => exact World.news_of_block (heap_alloc_new _ _)
                  case c2 => intro u hu; simp at hu; subst hu; rfl
                  case c3 => omega
                  case c4 => unfold maxLen; omega
                  case c5 => omega
                  case c6 => have := hbel.size; simp; omega
                  · intro g9 cap9 w4 hown4 hg4 hb4 hlt4
                    have HI4 : Hid (StI t w w4 (.slice (some ⟨g9, 0, none⟩) (LL.length + 1) cap9) (upT t i ++ woL t i (k + 1))) := hide ⟨by
                      rw [woL_succ, ← List.append_assoc, hLL, txs_push, List.length_append]; exact hown4, (hbel.alloc hbel.size _).grown hg4 (by have := hbel.size; simp; omega) (fun j hj => (hown.lt j hj).1)⟩
                    clear hown4 hg4 hb4 hlt4 hown hbel
                    go_wp2
                    go_roundw
                    case rel => exact ⟨k + 1, _, by go_num, rfl, by omega, HI4⟩
                    case measure => simp [intOf]; omega
                · have e : k = n := by omega
                  subst e
                  have HI4 : Hid (StI t w wr ov2 (upT t (i + 1))) := hide (by rw [unhide HST]; exact unhide hI2)
                  clear hI2
                  go_wp2
                  go_roundw
                  case rel => exact ⟨i + 1, _, by go_num, rfl, by omega, HI4⟩
                  case measure => simp [intOf]; omega
          · rw [if_neg h123] at hst
            have HI3 : Hid (StI t w wr ov (upT t (i + 1))) := hide (by rw [hst]; simpa using unhide hI)
            have hsw : Hid (((x == 91) = true ∧ ((((elS t i).length : Nat) : Int) == 1) = false ∧ x = 91) ∨ ((x == 91) = false ∧ (x == 123) = false ∧ ((x == 60) = false ∨ ((x == 60) = true ∧ ¬ (1 : Int) < ((elS t i).length : Int))))) := hide (by
              by_cases e1 : x = 91
              · left
                refine ⟨by simp [e1], ?_, e1⟩
                have : (elS t i).length ≠ 1 := fun h => h91 ⟨e1, h⟩
                simp; omega
              · right
                have e2 : x ≠ 123 := fun h => h123 (.inl h)
                refine ⟨by simp [e1], by simp [e2], ?_⟩
                by_cases e3 : x = 60
                · right
                  refine ⟨by simp [e3], fun h => h123 (.inr ⟨e3, by omega⟩)⟩
                · left; simp [e3])
            clear hst h1 hbt h91 h123 hI
            go_wp2_with (first
              | (go_at_call 31; refine (name_any _ _).mono ?_; rw [unhide H1]; rintro e w' ⟨rfl, hw⟩; replace hw := hw.symm; subst hw)
              | fail)
            refine (elements_full t _ i _ ht rfl hil).mono ?_
            rintro e w1 ⟨lv, rfl, hlo, hb1⟩
            have hI1 := hide ((unhide HI3).on hb1)
            obtain ⟨ao, cap, rfl⟩ : ∃ ao cap, lv = .slice ao (elS t i).length cap := by
              rcases hlo.2 with ⟨e, h0⟩ | ⟨g, cap, _, e, _⟩
              · exact ⟨none, 0, by rw [e, h0]⟩
              · exact ⟨_, cap, e⟩
            clear hlo hb1 HI3
            generalize (elS t i).length = n at *
            rcases unhide hsw with ⟨g1, g2, g3⟩ | ⟨g1, g2, g3 | ⟨g3, g4⟩⟩
            · subst g3
              clear hsw
              go_wp2
              go_roundw
              case rel => exact ⟨i + 1, _, by go_num, rfl, by omega, hI1⟩
              case measure => simp [intOf]; omega
            · clear hsw
              go_wp2
              go_roundw
              case rel => exact ⟨i + 1, _, by go_num, rfl, by omega, hI1⟩
              case measure => simp [intOf]; omega
            · clear hsw
              go_wp2
              go_roundw
              case rel => exact ⟨i + 1, _, by go_num, rfl, by omega, hI1⟩
              case measure => simp [intOf]; omega
      · have hcn := unhide HN h1
        have hws : stS t i = wnS t i := by unfold stS; rw [if_pos hcn]
        rw [if_pos h1] at hst
        have HST := hide hst
        have H1 := hide h1
        have hwl : ((wnS t i).map strOfNums).length ≤ 2001 := by
          rw [List.length_map, ← hws]; exact stS_len i ht
        clear hst h1 hbt HN hws
        go_wp2_with (first
          | (go_at_call 31; refine (name_any _ _).mono ?_; rw [unhide H1]; rintro e w' ⟨rfl, hw⟩; replace hw := hw.symm; subst hw)
          | fail)
        refine (elements_full t _ i _ ht rfl hil).mono ?_
        rintro e w1 ⟨lv, rfl, hlo, hb1⟩
        have hI1 := hide ((unhide hI).on hb1)
        clear hlo hb1 hI
        go_wp2_with fail
        refine (within_any (unhide HT) _ i _ rfl hil hcn).mono ?_
        rintro e w2 ⟨mv, rfl, hmo, hb2⟩
        have hI2 := (unhide hI1).on hb2
        have hown := hI2.own
        have hbel := hI2.bel
        clear hI2 hb2 hI1
        generalize hM : (wnS t i).map strOfNums = M at *
        go_wp2_with (first | (at_builtin; refine wpList_join rfl _ _ rfl rfl hown rfl hmo (by omega) hbel.size ?_))
        · intro v3 w3 hown3 hg3
          have HI3 : Hid (StI t w w3 v3 (upT t (i + 1))) := hide ⟨by
            rw [unhide HST]
            unfold txs at hown3 ⊢
            rw [List.map_append, List.length_append]; exact hown3, hbel.grown hg3 hbel.size (fun j hj => (hown.lt j hj).1)⟩
          clear hown3 hg3 hown hbel hmo
          go_wp2
          go_roundw
          case rel => exact ⟨i + 1, _, by go_num, rfl, by omega, HI3⟩
          case measure => simp [intOf]; omega
    · have e : i = t.size - 1 := by omega
      subst e
      go_wp2
      go_ret
      exact ⟨_, rfl, (unhide hI).own, (unhide hI).bel⟩
end
end Go.Proofs.YtnfaiaoipeholaaGreatDoor
