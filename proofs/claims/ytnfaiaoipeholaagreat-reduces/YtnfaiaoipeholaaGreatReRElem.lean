/- The reference's elements, with what they are. -/
import Derived.Test.YtnfaiaoipeholaaGreatReRrc
import Derived.Test.YtnfaiaoipeholaaGreatReTrs
namespace Go.Proofs.YtnfaiaoipeholaaGreat
open Go.RowKit
/-- pieces of a text as cells -/
def pcs (t : ByteArray) (l : List (Nat × Nat)) : List Value := l.map fun p => .string (t.extract p.1 p.2)
theorem pcs_push (t : ByteArray) (l : List (Nat × Nat)) (a b : Nat) : pcs t (l ++ [(a, b)]) = pcs t l ++ [.string (t.extract a b)] := by simp [pcs]
/-- a slice of pieces, with a block of its own -/
def OutS (t : ByteArray) (l : List (Nat × Nat)) (w : World) (e : Ending) (w' : World) : Prop := ∃ v, e = .returned v ∧ w'.ownsRow w.heap.size 9 1 v l.length (pcs t l) ∧ Below w.heap.size w w'
theorem spF_end {t : ByteArray} {E n k fr : Nat} (h : E ≤ k) : spF t E n k fr = [(fr, E)] := by
  cases n with
  | zero => rfl
  | succ n => unfold spF; rw [if_pos h]

set_option maxHeartbeats 1000000 in
set_option maxRecDepth 1000000 in
theorem elements_full (t : ByteArray) (q : Int) (i : Nat) (w : World) (ht : t.size ≤ 2000) (hq : q = i) (hi : i < t.size) :
    Calls Tryz.prog 117 #[.string t, .int .i64 q] w fun e w' => OutS t (elS t i) w e w' := by
  subst hq
  have hmb := mt_bd (t := t) (j := i) (by omega)
  obtain ⟨i1, hi1, hy0, hy1, hy2⟩ := info_parts Tryz.infoStr
  generalize hN : elS t i = L
  unfold elS at hN
  generalize hE : mt t i = E at *
  have HN := hide hN
  have HE := hide hE
  obtain ⟨hm1, hm2⟩ := hmb
  clear hN hE
  go_enter Tryz.func117, Tryz.ntmps117
  go_wp2_with (go_at_call 153; refine (match_any t _ i _ ht rfl (by omega)).mono ?_; rw [unhide HE]; rintro e w' ⟨rfl, hw⟩; replace hw := hw.symm; subst hw)
  go_loopw [5, 7, 8] (fun ov fv jv wr => ∃ (k fr n : Nat) (D : List (Nat × Nat)), i + 1 ≤ fr ∧ fr ≤ k ∧ k ≤ t.size + 1 ∧ (fr ≤ E ∨ fr = i + 1) ∧ D.length ≤ k ∧ E ≤ n + k ∧ (E ≤ i + 1 → D = []) ∧ jv = .int .i64 k ∧ fv = .int .i64 fr ∧ wr.ownsRow w.heap.size 9 1 ov D.length (pcs t D) ∧ Below w.heap.size w wr ∧ Hid (i + 1 < E → L = D ++ spF t E n k fr)) (fun _ _ jv _ => t.size + 1 - (intOf jv).toNat)
  case atStart => exact ⟨i + 1, i + 1, t.size, [], by omega, by omega, by omega, .inr rfl, by simp, by omega, fun _ => rfl, by go_num, by go_num, World.ownsRow_nil w w.heap.size 9 1, Below.refl _ _, hide (fun h => by rw [← unhide HN, if_pos h]; rfl)⟩
  case round =>
    obtain ⟨k, fr, n, D, hfr1, hfr2, hk, hfE, hck, hnk, hD0, rfl, rfl, hown, hbel, hr⟩ := hrel
    have HO := hide hown
    have HB := hide hbel
    clear hbel
    by_cases hlt : k < E
    · have hkl : k < t.size := by omega
      have hiE : i + 1 < E := by omega
      have hr0 : L = D ++ spF t E n k fr := unhide hr hiE
      obtain ⟨m, rfl⟩ : ∃ m, n = m + 1 := ⟨n - 1, by omega⟩
      have hb := bt_at t k hkl
      have hmk := mt_bd (t := t) (j := k) (by omega)
      unfold spF at hr0
      rw [if_neg (by omega)] at hr0
      cases h1 : cO (bt t k)
      · rw [if_neg (by rw [h1]; decide)] at hr0
        have hcC : Hid (cC (t[k].toNat : Int) = 0) := hide (by rw [← hb]; simpa [cO] using h1)
        by_cases h44 : bt t k = 44
        · rw [if_pos h44] at hr0
          have hc44 : (t[k].toNat : Int) = 44 := by rw [← hb]; exact h44
          have HS : Hid (i + 1 < E → L = (D ++ [(fr, k)]) ++ spF t E m (k + 1) (k + 1)) := hide (fun _ => by rw [hr0]; simp)
          clear hb h1 h44 hr hr0
          go_wp2_with (first
            | (go_at_call 115; refine (rclosing_any _ _).mono ?_; rw [show cC 44 = 0 by decide]; rintro e w' ⟨rfl, hw⟩; replace hw := hw.symm; subst hw)
            | (at_builtin; refine wpList_append_lies _ rfl _ _ 103 rfl w.heap.size 9 i1 (.string ⟨#[]⟩) 1 16 Tryz.underlying103 hi1 hy0 hy1 hy2 rfl (by decide) _ _ _ rfl (hown.alloc _) ⟨_, 0, none⟩ 1 1 [.string (t.extract fr k)] rfl rfl ?c1 ?c2 ?c3 ?c4 ?c5 ?c6 _ rfl ?_))
          case c1 => exact World.news_of_block (heap_alloc_new _ _)
          case c2 => intro u hu; simp at hu; subst hu; rfl
          case c3 => omega
          case c4 => unfold maxLen; omega
          case c5 => omega
          case c6 => have := (unhide HB).size; simp; omega
          · intro g1 cap1 w3 hown3 hg3 hb3 hlt3
            have HO3 := hide hown3
            have HB3 := hide (((unhide HB).alloc (unhide HB).size _).grown hg3 (by have := (unhide HB).size; simp; omega) (fun j hj => (hown.lt j hj).1))
            clear hown3 hg3 hb3 hlt3 hown
            go_wp2
            go_roundw
            case rel => exact ⟨k + 1, k + 1, m, D ++ [(fr, k)], by omega, by omega, by omega, .inl (by omega), by simp; omega, by omega, fun h => by omega, by go_num, by go_num, by rw [pcs_push, List.length_append]; exact unhide HO3, unhide HB3, HS⟩
            case measure => simp [intOf]; omega
        · rw [if_neg h44] at hr0
          have hc44 : ((t[k].toNat : Int) == 44) = false := by rw [← hb]; simp [h44]
          have HS : Hid (i + 1 < E → L = D ++ spF t E m (k + 1) fr) := hide (fun _ => hr0)
          clear hb h1 h44 hr hown hr0
          go_wp2_with (go_at_call 115; refine (rclosing_any _ _).mono ?_; rw [unhide hcC]; rintro e w' ⟨rfl, hw⟩; replace hw := hw.symm; subst hw)
          go_roundw
          case rel => exact ⟨k + 1, fr, m, D, by omega, by omega, by omega, hfE, by omega, by omega, hD0, by go_num, rfl, unhide HO, unhide HB, HS⟩
          case measure => simp [intOf]; omega
      · rw [if_pos h1] at hr0
        have hcC : cC (t[k].toNat : Int) ≠ 0 := by rw [← hb]; simpa [cO] using h1
        have hcC' : (cC (t[k].toNat : Int) != 0) = true := by simp [hcC]
        have HS : Hid (i + 1 < E → L = D ++ spF t E m (mt t k + 1) fr) := hide (fun _ => hr0)
        clear hb h1 hr hown hcC hr0
        go_wp2_with (first
          | (go_at_call 115; refine (rclosing_any _ _).mono ?_; rintro e w' ⟨rfl, hw⟩; replace hw := hw.symm; subst hw)
          | (go_at_call 153; refine (match_any t _ k _ ht rfl (by omega)).mono ?_; rintro e w' ⟨rfl, hw⟩; replace hw := hw.symm; subst hw))
        go_roundw
        case rel => exact ⟨mt t k + 1, fr, m, D, by omega, by omega, by omega, hfE, by omega, by omega, hD0, by go_num, rfl, unhide HO, unhide HB, HS⟩
        case measure => simp [intOf]; omega
    · by_cases hiE : i + 1 < E
      · have hS : Hid (L = D ++ [(fr, E)]) := hide (by rw [unhide hr hiE, spF_end (by omega)])
        have hfE' : fr ≤ E := by omega
        clear hr
        go_wp2_with (at_builtin; refine wpList_append_lies _ rfl _ _ 103 rfl w.heap.size 9 i1 (.string ⟨#[]⟩) 1 16 Tryz.underlying103 hi1 hy0 hy1 hy2 rfl (by decide) _ _ _ rfl (hown.alloc _) ⟨_, 0, none⟩ 1 1 [.string (t.extract fr E)] rfl rfl ?c1 ?c2 ?c3 ?c4 ?c5 ?c6 _ rfl ?_)
        case c1 => exact World.news_of_block (heap_alloc_new _ _)
        case c2 => intro u hu; simp at hu; subst hu; rfl
        case c3 => omega
        case c4 => unfold maxLen; omega
        case c5 => omega
        case c6 => have := (unhide HB).size; simp; omega
        · intro g1 cap1 w3 hown3 hg3 hb3 hlt3
          have HB3 := hide (((unhide HB).alloc (unhide HB).size _).grown hg3 (by have := (unhide HB).size; simp; omega) (fun j hj => (hown.lt j hj).1))
          have HO3 := hide hown3
          clear hown3 hg3 hb3 hlt3 hown
          go_wp2
          go_ret
          refine ⟨_, rfl, ?_, unhide HB3⟩
          rw [unhide hS, pcs_push, List.length_append]
          exact unhide HO3
      · have hS : Hid (L = D) := hide (by rw [← unhide HN, if_neg hiE, hD0 (by omega)])
        clear hr
        go_wp2
        go_ret
        refine ⟨_, rfl, ?_, unhide HB⟩
        rw [unhide hS]
        exact unhide HO
end Go.Proofs.YtnfaiaoipeholaaGreat
