/- The program's conditions, and a tree's word. -/
import Derived.Test.YtnfaiaoipeholaaLeaf
import Derived.Test.YtnfaiaoipeholaaWnSts
import Derived.Test.YtnfaiaoipeholaaCells
import Derived.Deep.AppendLies
import Derived.Deep.OwnRows
import Derived.WalkSmall
namespace Go.Proofs.Ytnfaiaoipeholaa
open Go.RowKit
theorem ba_ne {a b : ByteArray} (h : ¬ a = b) : (a.toList == b.toList) = false := by
  rw [ByteArray.toList_eq, ByteArray.toList_eq]
  simp only [beq_eq_false_iff_ne, ne_eq]
  intro e
  apply h
  obtain ⟨x⟩ := a
  obtain ⟨y⟩ := b
  have : x = y := Array.toList_inj.1 e
  rw [this]
theorem ba_eq {a b : ByteArray} (h : a = b) : (a.toList == b.toList) = true := by subst h; simp

set_option maxHeartbeats 400000 in
theorem mayStand_any (c : ByteArray) (q : Int) (k : Nat) (w : World) (hc : c.size ≤ maxLen) (hq : q = k) (hk : k < c.size) : Calls Try.prog 79 #[.string c, .int .i64 q] w fun e w' => e = .returned (.bool (cndB c k)) ∧ w' = w := by
  subst hq
  have hc' := hc
  unfold maxLen at hc'
  generalize hR : cndB c k = R
  unfold cndB at hR
  have hb := bt_bd c k
  by_cases h33 : bt c k = 33
  · have H33 := hide h33
    rw [h33, show cL 33 = false by decide, show ((33 : Int) == 44) = false by decide, show ((33 : Int) == 33) = true by decide, Bool.false_or, Bool.false_or, Bool.true_and] at hR
    clear h33
    by_cases h0 : k = 0
    · subst h0
      rw [show ((0 : Nat) == 0) = true by decide, Bool.true_or] at hR
      subst hR
      go_enter Try.func79, Try.ntmps79
      go_wp2_with (go_at_call 52; refine (at_any _ _ _ hc).mono ?_; rw [show ((0 : Nat) : Int) = 0 from rfl] at H33; rw [unhide H33]; rintro e w' ⟨rfl, rfl⟩)
      go_ret; exact ⟨rfl, rfl⟩
    · have hk0 : ((k : Int) == 0) = false := by simp; omega
      rw [show (k == 0) = false by simp [h0], Bool.false_or] at hR
      have HR := hide hR
      clear hR
      go_enter Try.func79, Try.ntmps79
      go_wp2_with (go_at_call 52; refine (at_any _ _ _ hc).mono ?_; first | (rw [unhide H33]; rintro e w' ⟨rfl, rfl⟩) | (rintro e w' ⟨rfl, rfl⟩))
      go_ret; exact ⟨ret_bool (unhide HR), rfl⟩
  · have h33' : (bt c k == 33) = false := by simp [h33]
    rw [h33', Bool.false_and, Bool.or_false] at hR
    have HR := hide hR
    clear hR
    go_enter Try.func79, Try.ntmps79
    go_wp2_with (first | (go_at_call 52; refine (at_any _ _ _ hc).mono ?_; rintro e w' ⟨rfl, rfl⟩) | (go_at_call 67; refine (isLetter_any _ _).mono ?_; rintro e w' ⟨rfl, rfl⟩))
    all_goals (go_ret; exact ⟨ret_bool (by rw [← unhide HR, Bool.or_comm]; try simp_all), rfl⟩)

set_option maxHeartbeats 400000 in
theorem isCondition_any (c : ByteArray) (w : World) (hc : c.size ≤ maxLen) : Calls Try.prog 44 #[.string c] w fun e w' => e = .returned (.bool (cnd c)) ∧ w' = w := by
  have hc' := hc
  unfold maxLen at hc'
  generalize hR : cnd c = R
  unfold cnd at hR
  have HR := hide hR
  clear hR
  by_cases hz : c.size ≤ 300
  · have HR2 : Hid (cdF c 0 = R) := hide (by rw [← unhide HR]; simp [hz, cdF])
    clear HR
    go_enter Try.func44, Try.ntmps44
    go_wp2
    go_loop [3] (fun iv => ∃ k : Nat, iv = .int .i64 k ∧ k ≤ c.size ∧ Hid (cdF c k = R)) (fun iv => c.size - (intOf iv).toNat)
    case atStart => exact ⟨0, rfl, Nat.zero_le _, HR2⟩
    case round =>
      obtain ⟨k, rfl, hk, hr⟩ := hrel
      by_cases hlt : k < c.size
      · have hst := unhide hr
        rw [cdF_step hlt] at hst
        cases h1 : cndB c k
        · rw [h1, Bool.false_and] at hst
          have H1 := hide h1
          have HS := hide hst
          clear h1 hst hr
          go_wp2_with (go_at_call 79; refine (mayStand_any c _ k _ hc rfl hlt).mono ?_; rw [unhide H1]; rintro e w' ⟨rfl, rfl⟩)
          go_ret; exact ⟨ret_bool (unhide HS), rfl⟩
        · rw [h1, Bool.true_and] at hst
          have H1 := hide h1
          have HS := hide hst
          clear h1 hst hr
          go_wp2_with (go_at_call 79; refine (mayStand_any c _ k _ hc rfl hlt).mono ?_; rw [unhide H1]; rintro e w' ⟨rfl, rfl⟩)
          go_round
          case rel => exact ⟨k + 1, by go_num, by omega, HS⟩
          case measure => simp [intOf]; omega
      · have HS : Hid (true = R) := hide (by rw [← unhide hr, cdF_out (by omega)])
        clear hr
        go_wp2
        go_ret; exact ⟨ret_bool (unhide HS), rfl⟩
  · have HR2 : Hid (false = R) := hide (by rw [← unhide HR]; simp [hz])
    clear HR
    go_enter Try.func44, Try.ntmps44
    go_wp2
    go_ret; exact ⟨ret_bool (unhide HR2), rfl⟩

set_option maxHeartbeats 400000 in
theorem partEnd_any (c : ByteArray) (q : Int) (b : Nat) (w : World) (hc : c.size ≤ maxLen) (hq : q = b) (hb : b ≤ c.size) : Calls Try.prog 80 #[.string c, .int .i64 q] w fun e w' => e = .returned (.int .i64 (pe c b)) ∧ w' = w := by
  subst hq
  have hc' := hc
  unfold maxLen at hc'
  generalize hR : pe c b = R
  have HR := hide hR
  clear hR
  go_enter Try.func80, Try.ntmps80
  go_wp2
  go_loop [5] (fun iv => ∃ k : Nat, iv = .int .i64 k ∧ k ≤ c.size ∧ Hid (pe c k = R)) (fun iv => c.size - (intOf iv).toNat)
  case atStart => exact ⟨b, rfl, hb, HR⟩
  case round =>
    obtain ⟨k, rfl, hk, hr⟩ := hrel
    by_cases hlt : k < c.size
    · have hbt := bt_at c k hlt
      have hst := unhide hr
      rw [pe_step hlt] at hst
      by_cases h44 : bt c k = 44
      · rw [if_pos h44] at hst
        have hc44 : (c[k].toNat : Int) = 44 := by rw [← hbt]; exact h44
        have HS := hide hst
        clear hst hr hbt h44
        go_wp2
        go_ret; exact ⟨ret_int (by rw [unhide HS]), rfl⟩
      · rw [if_neg h44] at hst
        have hc44 : ((c[k].toNat : Int) == 44) = false := by rw [← hbt]; simp [h44]
        have HS := hide hst
        clear hst hr hbt h44
        go_wp2
        go_round
        case rel => exact ⟨k + 1, by go_num, by omega, HS⟩
        case measure => simp [intOf]; omega
    · have HS : Hid (k = R) := hide (by rw [← unhide hr, pe_out (by omega)])
      clear hr
      go_wp2
      go_ret; exact ⟨ret_int (by rw [unhide HS]), rfl⟩

set_option maxHeartbeats 400000 in
theorem standsIn_any (p u : ByteArray) (w : World) (hp : p.size ≤ 300) (hu : u.size ≤ 10000) : Calls Try.prog 104 #[.string p, .string u] w fun e w' => e = .returned (.bool (stn u p)) ∧ w' = w := by
  generalize hR : stn u p = R
  have HR : Hid (snF u p 0 = R) := hide (by rw [snF_zero]; exact hR)
  clear hR
  go_enter Try.func104, Try.ntmps104
  go_wp2
  go_loop [5] (fun iv => ∃ k : Nat, iv = .int .i64 k ∧ k ≤ u.size + 1 ∧ Hid (snF u p k = R)) (fun iv => u.size + 1 - (intOf iv).toNat)
  case atStart => exact ⟨0, rfl, Nat.zero_le _, HR⟩
  case round =>
    obtain ⟨k, rfl, hk, hr⟩ := hrel
    by_cases hlt : k + p.size ≤ u.size
    · have hst := unhide hr
      rw [snF_step hlt] at hst
      by_cases h1 : u.extract k (k + p.size) = p
      · rw [if_pos h1] at hst
        have HS := hide hst
        have hne := ba_eq h1
        clear hst hr h1
        go_wp2
        go_ret; exact ⟨ret_bool (unhide HS), rfl⟩
      · rw [if_neg h1] at hst
        have HS := hide hst
        have hne := ba_ne h1
        clear hst hr h1
        go_wp2
        exact ⟨⟨k + 1, by go_num, by omega, HS⟩, by simp [intOf]; omega⟩
    · have HS : Hid (false = R) := hide (by rw [← unhide hr, snF_out (by omega)])
      clear hr
      go_wp2
      go_ret; exact ⟨ret_bool (unhide HS), rfl⟩
end Go.Proofs.Ytnfaiaoipeholaa
/- The program: does a condition hold? -/
namespace Go.Proofs.Ytnfaiaoipeholaa
open Go.RowKit

set_option maxHeartbeats 400000 in
theorem partHolds_any (p u : ByteArray) (w : World) (hp : p.size ≤ 300) (hu : u.size ≤ 10000) : Calls Try.prog 81 #[.string p, .string u] w fun e w' => e = .returned (.bool (ptx p u)) ∧ w' = w := by
  have hp' : p.size ≤ maxLen := by unfold maxLen; omega
  generalize hR : ptx p u = R
  unfold ptx at hR
  by_cases h33 : bt p (0 : Nat) = 33
  · have hpos : 0 < p.size := bt_lt (by rw [h33]; decide)
    rw [if_pos h33] at hR
    have H33 : Hid (bt p 0 = 33) := hide h33
    have HR := hide hR
    have hz : (p.extract 1 p.size).size ≤ 300 := by rw [ext_size p (Nat.le_refl _)]; omega
    clear hR h33
    go_enter Try.func81, Try.ntmps81
    go_wp2_with (first | (go_at_call 52; refine (at_any _ _ _ hp').mono ?_; rw [unhide H33]; rintro e w' ⟨rfl, rfl⟩) | (go_at_call 104; refine (standsIn_any _ _ _ hz hu).mono ?_; rintro e w' ⟨rfl, rfl⟩))
    go_ret; exact ⟨ret_bool (by rw [← unhide HR]), rfl⟩
  · rw [if_neg h33] at hR
    have h33' : (bt p 0 == 33) = false := by
      have : bt p 0 ≠ 33 := h33
      simp [this]
    have HR := hide hR
    clear hR h33
    go_enter Try.func81, Try.ntmps81
    go_wp2_with (first | (go_at_call 52; refine (at_any _ _ _ hp').mono ?_; rintro e w' ⟨rfl, rfl⟩) | (go_at_call 104; refine (standsIn_any _ _ _ hp hu).mono ?_; rintro e w' ⟨rfl, rfl⟩))
    go_ret; exact ⟨ret_bool (by rw [← unhide HR]), rfl⟩

set_option maxHeartbeats 400000 in
theorem holds_any (c u : ByteArray) (w : World) (hc : c.size ≤ 300) (hu : u.size ≤ 10000) : Calls Try.prog 46 #[.string c, .string u] w fun e w' => e = .returned (.bool (hld c u)) ∧ w' = w := by
  have hc' : c.size ≤ maxLen := by unfold maxLen; omega
  generalize hR : hld c u = R
  have HR : Hid (hlF c u 0 = R) := hide (by rw [hlF_zero]; exact hR)
  clear hR
  go_enter Try.func46, Try.ntmps46
  go_wp2
  go_loop [5] (fun iv => ∃ k : Nat, iv = .int .i64 k ∧ k ≤ c.size + 1 ∧ Hid (hlF c u k = R)) (fun iv => c.size + 1 - (intOf iv).toNat)
  case atStart => exact ⟨0, rfl, Nat.zero_le _, HR⟩
  case round =>
    obtain ⟨k, rfl, hk, hr⟩ := hrel
    by_cases hlt : k ≤ c.size
    · have hst := unhide hr
      have hpb := pe_bd hlt
      obtain ⟨hp1, hp2⟩ := hpb
      rw [hlF_step hlt, prh_ptx hp1 hp2] at hst
      have hz : (c.extract k (pe c k)).size ≤ 300 := by rw [ext_size c hp2]; omega
      cases h1 : ptx (c.extract k (pe c k)) u
      · rw [h1, Bool.false_and] at hst
        have H1 := hide h1
        have HS := hide hst
        clear h1 hst hr
        go_wp2_with (first | (go_at_call 80; refine (partEnd_any c _ k _ hc' rfl hlt).mono ?_; rintro e w' ⟨rfl, rfl⟩) | (go_at_call 81; refine (partHolds_any _ _ _ hz hu).mono ?_; rw [unhide H1]; rintro e w' ⟨rfl, rfl⟩))
        go_ret; exact ⟨ret_bool (unhide HS), rfl⟩
      · rw [h1, Bool.true_and] at hst
        have H1 := hide h1
        have HS := hide hst
        clear h1 hst hr
        go_wp2_with (first | (go_at_call 80; refine (partEnd_any c _ k _ hc' rfl hlt).mono ?_; rintro e w' ⟨rfl, rfl⟩) | (go_at_call 81; refine (partHolds_any _ _ _ hz hu).mono ?_; rw [unhide H1]; rintro e w' ⟨rfl, rfl⟩))
        go_round
        case rel => exact ⟨pe c k + 1, by go_num, by omega, HS⟩
        case measure => simp [intOf]; omega
    · have HS : Hid (true = R) := hide (by rw [← unhide hr, hlF_out (by omega)])
      clear hr
      go_wp2
      go_ret; exact ⟨ret_bool (unhide HS), rfl⟩

/-- bytes as cells -/
def ubs (T : List Int) : List Value := T.map (Value.int .u8)
theorem ubs_push (T : List Int) (c : Int) : ubs (T ++ [c]) = ubs T ++ [.int .u8 c] := by simp [ubs]
theorem ubs_strs (T : List Int) {w : World} {base : Nat} {v : Value} (h : w.ownsRow base 5 1 v T.length (ubs T)) : ∃ ao cap, v = .slice ao T.length cap ∧ (convert 45 9 (.slice ao T.length cap)).run Try.prog w = .ok (.string (strOfNums T)) w := by
  rcases h.2 with ⟨e, h0⟩ | ⟨g, cap, cur, e, _⟩
  · have hT : T = [] := List.length_eq_zero_iff.1 h0
    subst hT
    refine ⟨none, 0, e, ?_⟩
    have := run_convert_bytes_nil (P := Try.prog) (w := w) 45 5 Try.underlying45 Try.underlying5 0 0 9 Try.underlying9
    exact this
  · subst e
    refine ⟨some ⟨g, 0, none⟩, cap, rfl, run_convert_bytes_arg _ 45 5 Try.underlying45 Try.underlying5 g 0 T.length cap T rfl (fun i hi => ?_) _ Try.underlying9⟩
    rw [Nat.zero_add, h.cellAt i (by omega)]
    unfold ubs
    rw [List.getElem?_map, List.getElem?_eq_getElem hi, List.getD_eq_getElem?_getD, List.getElem?_eq_getElem hi]; rfl

set_option maxHeartbeats 400000 in
set_option maxRecDepth 1000000 in
theorem treeWord_any (t : ByteArray) (w : World) (ht : t.size ≤ 10000) : Calls Try.prog 45 #[.string t] w fun e w' => e = .returned (.string (wd t)) ∧ Below w.heap.size w w' := by
  generalize hR : wd t = R
  unfold wd seg at hR
  have HR := hide hR
  clear hR
  obtain ⟨i1, hi1, hy0, hy1, hy2⟩ := info_parts Try.infoByte
  have hmk : ∀ w : World, (Instr.makeSlice 45 (.int .i64 0) (.int .i64 0)).run Try.prog w = .ok (.slice (some ⟨w.heap.size, 0, none⟩) 0 0) (w.alloc (.cells (madeCells #[.int .u8 0] 0) 5)) := fun w =>
    run_make_row' (P := Try.prog) 45 5 (.int .u8 0) 1 Try.underlying45 Try.infoByte rfl .i64 .i64 0 (by omega) (by omega) w
  go_enter Try.func45, Try.ntmps45
  go_wp2_with fail
  go_loopw [3, 4] (fun ov iv wr => ∃ (k : Nat) (L : List Int), iv = .int .i64 k ∧ k ≤ t.size ∧ L.length ≤ k ∧ wr.ownsRow w.heap.size 5 1 ov L.length (ubs L) ∧ Below w.heap.size w wr ∧ Hid (L = (segF t k 0).filter cL)) (fun _ jv _ => t.size - (intOf jv).toNat)
  case atStart => exact ⟨0, [], rfl, Nat.zero_le _, Nat.le_refl _, World.ownsRow_made w _ 0 (Nat.le_refl _) (by unfold maxLen; omega) (by simp [madeCells]), (Below.refl _ _).alloc (Nat.le_refl _) _, hide rfl⟩
  case round =>
    obtain ⟨k, L, rfl, hk, hL, hown, hbel, hD⟩ := hrel
    have HB := hide hbel
    have HO := hide hown
    clear hbel hmk
    by_cases hlt : k < t.size
    · have hbt := bt_at t k hlt
      have hstep : (segF t (k + 1) 0).filter cL = (segF t k 0).filter cL ++ [bt t k].filter cL := by
        rw [segF_add, List.filter_append, Nat.zero_add]; rfl
      rw [hbt] at hstep
      have hbd := (t[k]).toNat_lt
      generalize hx : ((t[k].toNat : Nat) : Int) = x at *
      cases h1 : cL x
      · have HF : Hid (L = (segF t (k + 1) 0).filter cL) := hide (by rw [hstep, unhide hD]; simp [h1])
        have H1 := hide h1
        clear hstep h1 hown
        go_wp2_with (go_at_call 67; refine (isLetter_any _ _).mono ?_; rw [unhide H1]; rintro e w' ⟨rfl, rfl⟩)
        go_roundw
        case rel => exact ⟨k + 1, L, by go_num, by omega, by omega, unhide HO, unhide HB, HF⟩
        case measure => simp [intOf]; omega
      · have HF : Hid (L ++ [x] = (segF t (k + 1) 0).filter cL) := hide (by rw [hstep, unhide hD]; simp [h1])
        have H1 := hide h1
        clear hstep h1
        go_wp2_with (first
          | (go_at_call 67; refine (isLetter_any _ _).mono ?_; rw [unhide H1]; rintro e w' ⟨rfl, hw⟩; replace hw := hw.symm; subst hw)
          | (at_builtin; refine wpList_append_lies _ rfl _ _ 45 rfl w.heap.size 5 i1 (.int .u8 0) 1 1 Try.underlying45 hi1 hy0 hy1 hy2 rfl (by decide) _ _ _ rfl (hown.alloc _) ⟨_, 0, none⟩ 1 1 [.int .u8 x] rfl rfl ?c1 ?c2 ?c3 ?c4 ?c5 ?c6 _ rfl ?_))
        case c1 => exact World.news_of_block (heap_alloc_new _ _)
        case c2 => intro u hu; simp at hu; subst hu; rfl
        case c3 => omega
        case c4 => unfold maxLen; omega
        case c5 => omega
        case c6 => have := (unhide HB).size; simp; omega
        · intro g1 cap1 w3 hown3 hg3 hb3 hlt3
          have HO3 := hide hown3
          have HB3 := hide (((unhide HB).alloc (unhide HB).size _).grown hg3 (by have := (unhide HB).size; simp; omega) (fun j hj => (hown.lt j hj).1))
          clear hown3 hg3 hb3 hlt3 hown
          go_wp2
          go_roundw
          case rel => exact ⟨k + 1, L ++ [x], by go_num, by omega, by simp; omega, by rw [ubs_push, List.length_append]; exact unhide HO3, unhide HB3, HF⟩
          case measure => simp [intOf]; omega
    · have HF : Hid (R = strOfNums L) := hide (by rw [← unhide HR, unhide hD, show t.size - 0 = k by omega])
      obtain ⟨ao, cap, rfl, hcv⟩ := ubs_strs L hown
      clear HR hown
      go_wp2
      go_ret
      exact ⟨by rw [unhide HF]; rfl, unhide HB⟩
end Go.Proofs.Ytnfaiaoipeholaa
/- The program: where the parts of a tree end. -/
namespace Go.Proofs.Ytnfaiaoipeholaa
open Go.RowKit
theorem Try.infoInt1 : (Try.prog.info? 3).map (fun i => (i.zero, i.size, i.bytes)) = some (some (.int .i64 0), 1, 8) := by kernel_rfl
/-- places as cells -/
def nis (L : List Nat) : List Value := L.map fun (n : Nat) => Value.int .i64 (n : Int)
theorem nis_push (L : List Nat) (n : Nat) : nis (L ++ [n]) = nis L ++ [.int .i64 (n : Int)] := by simp [nis]
/-- ends while they are found -/
def enF (L : List Int) (i : Nat) : Value := .int .i64 (L.getD i 0)
theorem enF_set {L : List Int} {k i : Nat} {v : Int} (hk : k < L.length) : (if i = k then Value.int .i64 v else enF L i) = enF (L.set k v) i := by
  unfold enF
  rw [List.getD_eq_getElem?_getD, List.getD_eq_getElem?_getD]
  by_cases e : i = k
  · subst e; rw [if_pos rfl, List.getElem?_set_self hk]; rfl
  · rw [if_neg e, List.getElem?_set_ne (fun h => e h.symm)]
/-- the open ones, and the ends -/
structure EnI (w wr : World) (t : ByteArray) (k : Nat) (ov : Value) (S : List Int × List Nat) : Prop where
  row : wr.rowIs w.heap.size 3 t.size (enF S.1)
  own : wr.ownsRow (w.heap.size + 1) 3 1 ov S.2.length (nis S.2)
  bel : Below w.heap.size w wr
  lt : w.heap.size + 1 ≤ wr.heap.size

set_option maxHeartbeats 1000000 in
set_option maxRecDepth 1000000 in
theorem endsOf_any (t : ByteArray) (w : World) (ht : t.size ≤ 2000) : Calls Try.prog 105 #[.string t] w fun e w' => e = .returned (.slice (some ⟨w.heap.size, 0, none⟩) t.size t.size) ∧ w'.rowIs w.heap.size 3 t.size (enF (ensL t)) ∧ Below w.heap.size w w' := by
  generalize hR : ensL t = R
  have HR := hide hR
  clear hR
  obtain ⟨i1, hi1, hy0, hy1, hy2⟩ := info_parts Try.infoInt1
  have hmk : ∀ w : World, (Instr.makeSlice 22 (.int .i64 (t.size : Int)) (.int .i64 (t.size : Int))).run Try.prog w = .ok (.slice (some ⟨w.heap.size, 0, none⟩) t.size t.size) (w.alloc (.cells (madeCells #[.int .i64 0] t.size) 3)) := fun w =>
    run_make_row' (P := Try.prog) 22 3 (.int .i64 0) 8 Try.underlying22 Try.infoInt1 rfl .i64 .i64 t.size (by omega) (by omega) w
  have hmk0 : ∀ w : World, (Instr.makeSlice 22 (.int .i64 0) (.int .i64 0)).run Try.prog w = .ok (.slice (some ⟨w.heap.size, 0, none⟩) 0 0) (w.alloc (.cells (madeCells #[.int .i64 0] 0) 3)) := fun w =>
    run_make_row' (P := Try.prog) 22 3 (.int .i64 0) 8 Try.underlying22 Try.infoInt1 rfl .i64 .i64 0 (by omega) (by omega) w
  have HS : Hid (EnI w ((w.alloc (.cells (madeCells #[.int .i64 0] t.size) 3)).alloc (.cells (madeCells #[.int .i64 0] 0) 3)) t 0 (.slice (some ⟨w.heap.size + 1, 0, none⟩) 0 0) (List.replicate t.size 0, [])) := hide (by
    have r1 := World.rowIs_made w (.int .i64 0) t.size 3
    have b1 : Below w.heap.size w (w.alloc (.cells (madeCells #[.int .i64 0] t.size) 3)) := (Below.refl _ _).alloc (Nat.le_refl _) _
    generalize hw1 : w.alloc (.cells (madeCells #[.int .i64 0] t.size) 3) = w1 at *
    have hz1 : w1.heap.size = w.heap.size + 1 := by rw [← hw1]; simp
    refine ⟨(r1.alloc _).congr (fun i hi => ?_), ?_, b1.alloc (by omega) _, by simp; omega⟩
    · unfold enF
      rw [List.getD_eq_getElem?_getD, List.getElem?_replicate_of_lt hi]; rfl
    · have := World.ownsRow_made (base := w.heap.size + 1) (e := 3) (size := 1) w1 (madeCells #[.int .i64 0] 0) 0 (by omega) (by unfold maxLen; omega) (by simp [madeCells])
      rw [hz1] at this
      exact this)
  go_enter Try.func105, Try.ntmps105
  go_wp2_with fail
  generalize hw1 : World.alloc _ _ = w1 at *
  clear hw1 hmk hmk0
  go_loopw [4, 5] (fun ov iv wr => ∃ (k : Nat) (ov' : Value), iv = .int .i64 k ∧ ov = ov' ∧ k ≤ t.size ∧ Hid (EnI w wr t k ov (esF t k 0 (List.replicate t.size 0, [])))) (fun _ iv _ => t.size - (intOf iv).toNat)
  case atStart => exact ⟨0, _, rfl, rfl, Nat.zero_le _, HS⟩
  case round =>
    obtain ⟨k, ov, rfl, hov, hk, hI⟩ := hrel
    replace hov := hov.symm
    subst hov
    clear HS
    by_cases hlt : k < t.size
    · have hstp := esF_succ t k (List.replicate t.size 0, [])
      have hlen : (esF t k 0 (List.replicate t.size 0, [])).1.length = t.size := by rw [esF_len]; simp
      obtain ⟨hop1, hop2⟩ := esF_open t k
      generalize esF t k 0 (List.replicate t.size 0, []) = S at *
      obtain ⟨L, O⟩ := S
      simp only at hlen hop1 hop2
      have hbt := bt_at t k hlt
      have hbd := (t[k]).toNat_lt
      obtain ⟨hrow, hown, hbel, hsz⟩ := unhide hI
      simp only at hrow hown
      have q1 := hrow.cell hlt
      have q2 := hrow.frozen k
      have hrow1 := (hrow.set k (.int .i64 ((k : Int) + 1))).congr (fun i hi => enF_set (v := (k : Int) + 1) (by omega))
      have hown1 := ownsRow_setCell_below hown (a := ⟨w.heap.size, k, none⟩) (Nat.lt_succ_self _) (.int .i64 ((k : Int) + 1))
      have hbel1 := hbel.setCell (p := ⟨w.heap.size, k, none⟩) (Nat.le_refl _) (.int .i64 ((k : Int) + 1))
      have hsz1 : w.heap.size + 1 ≤ (wr.setCell ⟨w.heap.size, k, none⟩ (.int .i64 ((k : Int) + 1))).heap.size := by simpa using hsz
      unfold esT at hstp
      simp only at hstp
      rw [hbt] at hstp
      generalize hx : ((t[k].toNat : Nat) : Int) = x at *
      cases h1 : cO x
      · have H1 := hide h1
        rw [if_neg (by rw [h1]; decide)] at hstp
        cases h2 : cX x
        · have H2 := hide h2
          rw [if_neg (by rw [h2]; simp)] at hstp
          have HE : Hid (EnI w (wr.setCell ⟨w.heap.size, k, none⟩ (.int .i64 ((k : Int) + 1))) t (k + 1) ov (esF t (k + 1) 0 (List.replicate t.size 0, []))) := hide (by rw [hstp]; exact ⟨hrow1, hown1, hbel1, hsz1⟩)
          obtain ⟨ao, cap, rfl⟩ : ∃ ao cap, ov = .slice ao O.length cap := by
            rcases hown.2 with ⟨e, h0⟩ | ⟨g, cap, _, e, _⟩
            · exact ⟨none, 0, by rw [e, h0]⟩
            · exact ⟨_, cap, e⟩
          clear hrow hown hbel hrow1 hown1 hbel1 hstp h1 h2 hI
          go_wp2_with (first | (go_at_call 55; refine (isOpening_any _ _).mono ?_; rw [unhide H1]; rintro e w' ⟨rfl, hw⟩; replace hw := hw.symm; subst hw) | (go_at_call 92; refine (isClosing_any _ _).mono ?_; rw [unhide H2]; rintro e w' ⟨rfl, hw⟩; replace hw := hw.symm; subst hw))
          go_roundw
          case rel => exact ⟨k + 1, _, by go_num, rfl, by omega, HE⟩
          case measure => simp [intOf]; omega
        · have H2 := hide h2
          by_cases hO : O = []
          · rw [if_neg (by simp [hO])] at hstp
            subst hO
            have HE : Hid (EnI w (wr.setCell ⟨w.heap.size, k, none⟩ (.int .i64 ((k : Int) + 1))) t (k + 1) ov (esF t (k + 1) 0 (List.replicate t.size 0, []))) := hide (by rw [hstp]; exact ⟨hrow1, hown1, hbel1, hsz1⟩)
            obtain ⟨ao, cap, rfl⟩ : ∃ ao cap, ov = .slice ao 0 cap := by
              rcases hown.2 with ⟨e, h0⟩ | ⟨g, cap, _, e, _⟩
              · exact ⟨none, 0, by rw [e]⟩
              · exact ⟨_, cap, e⟩
            clear hrow hown hbel hrow1 hown1 hbel1 hstp h1 h2 hI
            go_wp2_with (first | (go_at_call 55; refine (isOpening_any _ _).mono ?_; rw [unhide H1]; rintro e w' ⟨rfl, hw⟩; replace hw := hw.symm; subst hw) | (go_at_call 92; refine (isClosing_any _ _).mono ?_; rw [unhide H2]; rintro e w' ⟨rfl, hw⟩; replace hw := hw.symm; subst hw))
            go_roundw
            case rel => exact ⟨k + 1, _, by go_num, rfl, by omega, HE⟩
            case measure => simp [intOf]; omega
          · rw [if_pos ⟨h2, hO⟩] at hstp
            obtain ⟨O', j, rfl⟩ : ∃ O' j, O = O' ++ [j] := ⟨O.dropLast, O.getLast hO, (List.dropLast_concat_getLast hO).symm⟩
            have hj : j < k := hop1 j (by simp)
            have hjt : j < t.size := by omega
            simp only [List.getLastD_concat, List.dropLast_concat] at hstp
            simp only [List.length_append, List.length_cons, List.length_nil, Nat.zero_add] at hown hown1 hop2
            obtain ⟨g, cap, rfl, hg1, hg2⟩ := hown.form (by omega)
            have hcj := hown1.cells (g := g) rfl O'.length (.int .i64 (j : Int)) (by simp [nis])
            rw [Addr.add_lit, Nat.zero_add] at hcj
            have q3 := hrow1.cell hjt
            have q4 := hrow1.frozen j
            have hcap : O'.length + 1 ≤ cap := by
              rcases hown.2 with ⟨e, h0⟩ | ⟨g', cap', _, e, _, _, hh, _⟩
              · cases e
              · cases e; exact hh
            have hrow2 := (hrow1.set j (.int .i64 ((k : Int) + 1))).congr (fun i hi => enF_set (v := (k : Int) + 1) (by simp; omega))
            have hown2 := ownsRow_pop (xs := nis O') (n := O'.length) (size := 1) (by unfold nis; rw [List.length_map, Nat.mul_one]) (by rw [← nis_push]; exact ownsRow_setCell_below hown1 (a := ⟨w.heap.size, j, none⟩) (Nat.lt_succ_self _) (.int .i64 ((k : Int) + 1)))
            have hbel2 := hbel1.setCell (p := ⟨w.heap.size, j, none⟩) (Nat.le_refl _) (.int .i64 ((k : Int) + 1))
            have HE : Hid (EnI w ((wr.setCell ⟨w.heap.size, k, none⟩ (.int .i64 ((k : Int) + 1))).setCell ⟨w.heap.size, j, none⟩ (.int .i64 ((k : Int) + 1))) t (k + 1) (.slice (some ⟨g, 0, none⟩) O'.length cap) (esF t (k + 1) 0 (List.replicate t.size 0, []))) := hide (by rw [hstp]; exact ⟨hrow2, hown2, hbel2, by simpa using hsz⟩)
            clear hrow hown hbel hrow1 hown1 hbel1 hstp h1 h2 hI hrow2 hown2 hbel2
            go_wp2_with (first | (go_at_call 55; refine (isOpening_any _ _).mono ?_; rw [unhide H1]; rintro e w' ⟨rfl, hw⟩; replace hw := hw.symm; subst hw) | (go_at_call 92; refine (isClosing_any _ _).mono ?_; rw [unhide H2]; rintro e w' ⟨rfl, hw⟩; replace hw := hw.symm; subst hw))
            go_roundw
            case rel => exact ⟨k + 1, _, by go_num, rfl, by omega, HE⟩
            case measure => simp [intOf]; omega
      · have H1 := hide h1
        have h2 : cX x = false := by
          cases e : cX x
          · rfl
          · have := cX_vals e; have := cO_vals h1; omega
        have H2 := hide h2
        rw [if_pos h1] at hstp
        have HST := hide hstp
        have HRW := hide hrow1
        have HBL := hide hbel1
        have HSZ := hide hsz1
        clear hrow hown hbel hrow1 hbel1 hstp h1 h2 hI hsz1
        go_wp2_with (first
          | (go_at_call 55; refine (isOpening_any _ _).mono ?_; rw [unhide H1]; rintro e w' ⟨rfl, hw⟩; replace hw := hw.symm; subst hw)
          | (at_builtin; refine wpList_append_lies _ rfl _ _ 22 rfl (w.heap.size + 1) 3 i1 (.int .i64 0) 1 8 Try.underlying22 hi1 hy0 hy1 hy2 rfl (by decide) _ _ _ rfl (hown1.alloc _) ⟨_, 0, none⟩ 1 1 [.int .i64 (k : Int)] rfl rfl ?c1 ?c2 ?c3 ?c4 ?c5 ?c6 _ rfl ?_))
        case c1 =>
          refine World.news_of_block (fr := (0, 0)) (t := 3) ?_
          have h := heap_alloc_new (wr.setCell ⟨w.heap.size, k, none⟩ (.int .i64 ((k : Int) + 1))) (.cells #[.int .i64 (k : Int)] 3)
          rw [show (wr.setCell ⟨w.heap.size, k, none⟩ (.int .i64 ((k : Int) + 1))).heap.size = wr.heap.size by simp] at h
          exact h
        case c2 => intro u hu; simp at hu; subst hu; rfl
        case c3 => omega
        case c4 => unfold maxLen; omega
        case c5 => omega
        case c6 => have := unhide HSZ; simp at this; simp; omega
        · intro g1 cap1 w3 hown3 hg3 hb3 hlt3
          have hgr : Below (w.heap.size + 1) (wr.setCell ⟨w.heap.size, k, none⟩ (.int .i64 ((k : Int) + 1))) w3 := ((Below.refl _ _).alloc (unhide HSZ) _).grown hg3 (by have := unhide HSZ; simp at this; simp; omega) (fun j hj => (hown1.lt j hj).1)
          have HE : Hid (EnI w w3 t (k + 1) (.slice (some ⟨g1, 0, none⟩) (O.length + 1) cap1) (esF t (k + 1) 0 (List.replicate t.size 0, []))) := hide (by
            rw [unhide HST]
            refine ⟨(unhide HRW).of_block (hgr.block _ (Nat.lt_succ_self _)), ?_, (unhide HBL).trans (hgr.mono (Nat.le_succ _)), Nat.le_trans (unhide HSZ) hgr.size⟩
            simp only
            rw [nis_push, List.length_append]
            exact hown3)
          clear hown3 hg3 hb3 hlt3 hgr HRW HBL hown1 HST
          go_wp2_with (first | (go_at_call 92; refine (isClosing_any _ _).mono ?_; rw [unhide H2]; rintro e w' ⟨rfl, hw⟩; replace hw := hw.symm; subst hw))
          go_roundw
          case rel => exact ⟨k + 1, _, by go_num, rfl, by omega, HE⟩
          case measure => simp [intOf]; omega
    · have hkt : k = t.size := by omega
      subst hkt
      have HF : Hid (R = (esF t t.size 0 (List.replicate t.size 0, [])).1) := hide (by rw [← unhide HR]; rfl)
      clear HR
      go_wp2
      go_ret
      exact ⟨rfl, by rw [unhide HF]; exact (unhide hI).row, (unhide hI).bel⟩
end Go.Proofs.Ytnfaiaoipeholaa
