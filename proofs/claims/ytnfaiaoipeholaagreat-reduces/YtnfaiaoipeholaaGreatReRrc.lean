/- The reference's match and elements. -/
import Derived.Test.YtnfaiaoipeholaaGreatReRcm
import Derived.Test.YtnfaiaoipeholaaGreatRLeaf
import Derived.Deep.AppendLies
namespace Go.Proofs.YtnfaiaoipeholaaGreat
open Go.RowKit
theorem cO_not {c : Int} (h : cO c = false) : (c == 40) = false ∧ (c == 91) = false ∧ (c == 123) = false ∧ (c == 60) = false := by
  refine ⟨?_, ?_, ?_, ?_⟩ <;> (simp only [beq_eq_false_iff_ne]; intro e; rw [e] at h; revert h; decide)
theorem cX_not {c : Int} (h : cX c = false) : (c == 41) = false ∧ (c == 93) = false ∧ (c == 125) = false ∧ (c == 62) = false := by
  refine ⟨?_, ?_, ?_, ?_⟩ <;> (simp only [beq_eq_false_iff_ne]; intro e; rw [e] at h; revert h; decide)

set_option maxHeartbeats 1000000 in
theorem match_any (t : ByteArray) (q : Int) (i : Nat) (w : World) (ht : t.size ≤ 2000) (hq : q = i) (hi : i ≤ t.size) :
    Calls Tryz.prog 153 #[.string t, .int .i64 q] w fun e w' => e = .returned (.int .i64 (mt t i)) ∧ w' = w := by
  subst hq
  generalize hR : mt t i = R
  unfold mt at hR
  have HR := hide hR; clear hR
  go_enter Tryz.func153, Tryz.ntmps153
  go_wp2
  go_loop [5, 6] (fun dv jv => ∃ (k : Nat) (d : Int), k ≤ t.size ∧ -(k : Int) ≤ d ∧ d ≤ k ∧ jv = .int .i64 k ∧ dv = .int .i64 d ∧ Hid (R = mtD t k d)) (fun _ jv => t.size - (intOf jv).toNat)
  case atStart => exact ⟨i, 0, hi, by omega, by omega, rfl, rfl, hide (unhide HR).symm⟩
  case round =>
    obtain ⟨k, d, hk, hd1, hd2, rfl, rfl, hr⟩ := hrel
    by_cases hlt : k < t.size
    · have hb := bt_at t k hlt
      have hst := mtD_step (d := d) hlt
      rw [hb] at hst
      cases h1 : cO (t[k].toNat : Int)
      · rw [if_neg (by simp [h1])] at hst
        obtain ⟨o1, o2, o3, o4⟩ := cO_not h1
        cases h2 : cX (t[k].toNat : Int)
        · rw [if_neg (by simp [h2])] at hst
          obtain ⟨x1, x2, x3, x4⟩ := cX_not h2
          have HS := hide ((unhide hr).trans hst)
          clear hr hst hb h1 h2
          go_wp2
          go_round
          case rel => exact ⟨k + 1, d, by omega, by omega, by omega, by go_num, rfl, HS⟩
          case measure => simp [intOf]; omega
        · rw [if_pos h2] at hst
          by_cases hz : d - 1 = 0
          · rw [if_pos hz] at hst
            have hz' : (d - 1 == 0) = true := by simp [hz]
            have HS := hide ((unhide hr).trans hst)
            clear hr hst hb h1 o1 o2 o3 o4
            rcases cX_vals h2 with hc | hc | hc | hc
            all_goals
              clear h2
              go_wp2
              go_ret
              exact ⟨ret_int (by rw [unhide HS]), rfl⟩
          · rw [if_neg hz] at hst
            have hz' : (d - 1 == 0) = false := by simp only [beq_eq_false_iff_ne]; exact hz
            have HS := hide ((unhide hr).trans hst)
            clear hr hst hb h1 o1 o2 o3 o4
            rcases cX_vals h2 with hc | hc | hc | hc
            all_goals
              clear h2
              go_wp2
              go_round
              case rel => exact ⟨k + 1, d - 1, by omega, by omega, by omega, by go_num, rfl, HS⟩
              case measure => simp [intOf]; omega
      · rw [if_pos h1] at hst
        have HS := hide ((unhide hr).trans hst)
        clear hr hst hb
        rcases cO_vals h1 with hc | hc | hc | hc
        all_goals
          clear h1
          go_wp2
          go_round
          case rel => exact ⟨k + 1, d + 1, by omega, by omega, by omega, by go_num, rfl, HS⟩
          case measure => simp [intOf]; omega
    · have HF : Hid (R = t.size) := hide (by rw [unhide hr]; unfold mtD; rw [show t.size - k = 0 by omega]; rfl)
      clear hr
      go_wp2
      go_ret
      exact ⟨ret_int (by rw [unhide HF]), rfl⟩

theorem Tryz.infoStr : (Tryz.prog.info? 9).map (fun i => (i.zero, i.size, i.bytes)) = some (some (.string ⟨#[]⟩), 1, 16) := by kernel_rfl
/-- what elements answers: only how many matter -/
def OutN (N : Nat) (w : World) (e : Ending) (w' : World) : Prop := ∃ ao cap, e = .returned (.slice ao N cap) ∧ Below w.heap.size w w'

set_option maxHeartbeats 1000000 in
set_option maxRecDepth 1000000 in
theorem relements_any (t : ByteArray) (q : Int) (i : Nat) (w : World) (ht : t.size ≤ 2000) (hq : q = i) (hi : i < t.size) :
    Calls Tryz.prog 117 #[.string t, .int .i64 q] w fun e w' => OutN (rn t (mt t i) (i + 1) + (if i + 1 < mt t i then 1 else 0)) w e w' := by
  subst hq
  have hmb := mt_bd (t := t) (j := i) (by omega)
  obtain ⟨i1, hi1, hy0, hy1, hy2⟩ := info_parts Tryz.infoStr
  generalize hN : rn t (mt t i) (i + 1) + (if i + 1 < mt t i then 1 else 0) = N
  have HN := hide hN
  generalize hE : mt t i = E at *
  have HE := hide hE
  obtain ⟨hm1, hm2⟩ := hmb
  clear hN hE
  go_enter Tryz.func117, Tryz.ntmps117
  go_wp2_with (go_at_call 153; refine (match_any t _ i _ ht rfl (by omega)).mono ?_; rw [unhide HE]; rintro e w' ⟨rfl, hw⟩; replace hw := hw.symm; subst hw)
  go_loopw [5, 7, 8] (fun ov fv jv wr => ∃ (k fr c : Nat) (xs : List Value), i + 1 ≤ fr ∧ fr ≤ k ∧ k ≤ t.size + 1 ∧ (fr ≤ E ∨ fr = i + 1) ∧ c ≤ k ∧ jv = .int .i64 k ∧ fv = .int .i64 fr ∧ wr.ownsRow w.heap.size 9 1 ov c xs ∧ Below w.heap.size w wr ∧ Hid (N = c + rn t E k + (if i + 1 < E then 1 else 0))) (fun _ _ jv _ => t.size + 1 - (intOf jv).toNat)
  case atStart => exact ⟨i + 1, i + 1, 0, [], by omega, by omega, by omega, .inr rfl, by omega, by go_num, by go_num, World.ownsRow_nil w w.heap.size 9 1, Below.refl _ _, hide (by rw [← unhide HN]; omega)⟩
  case round =>
    obtain ⟨k, fr, c, xs, hfr1, hfr2, hk, hfE, hck, rfl, rfl, hown, hbel, hr⟩ := hrel
    have HO := hide hown
    have HB := hide hbel
    clear hbel
    by_cases hlt : k < E
    · have hkl : k < t.size := by omega
      have hb := bt_at t k hkl
      have hst := rn_step hm2 hlt
      have hmk := mt_bd (t := t) (j := k) (by omega)
      cases h1 : cO (bt t k)
      · rw [if_neg (by rw [h1]; decide)] at hst
        have hcC : Hid (cC (t[k].toNat : Int) = 0) := hide (by rw [← hb]; simpa [cO] using h1)
        by_cases h44 : bt t k = 44
        · rw [if_pos h44] at hst
          have hc44 : (t[k].toNat : Int) = 44 := by rw [← hb]; exact h44
          have HS : Hid (N = (c + 1) + rn t E (k + 1) + (if i + 1 < E then 1 else 0)) := hide (by rw [unhide hr, hst]; omega)
          clear hst hb h1 h44 hr
          go_wp2_with (first
            | (go_at_call 115; refine (rclosing_any _ _).mono ?_; rw [show cC 44 = 0 by decide]; rintro e w' ⟨rfl, hw⟩; replace hw := hw.symm; subst hw)
            | (at_builtin; refine wpList_append_lies _ rfl _ _ 103 rfl w.heap.size 9 i1 (.string ⟨#[]⟩) 1 16 Tryz.underlying103 hi1 hy0 hy1 hy2 rfl (by decide) _ _ _ rfl (hown.alloc _) ⟨_, 0, none⟩ 1 1 [.string (t.extract fr k)] rfl rfl ?c1 ?c2 ?c3 ?c4 ?c5 ?c6 _ rfl ?_))
          case c1 => exact World.news_of_block (heap_alloc_new _ _)
          case c2 => intro u hu; simp at hu; subst hu; rfl
          case c3 => omega
          case c4 => unfold maxLen; omega
          case c5 => omega
          case c6 => have := (unhide HB).size; simp; omega
          · intro g1 cap1 w3 hown3 hg3 hb3 hlt3
            have HO3 := hide hown3
            have HB3 := hide (((unhide HB).alloc (unhide HB).size _).grown hg3 (by have := (unhide HB).size; simp; omega) (fun j hj => (hown.lt j hj).1))
            clear hown3 hg3 hb3 hlt3 hown
            go_wp2
            go_roundw
            case rel => exact ⟨k + 1, k + 1, c + 1, _, by omega, by omega, by omega, .inl (by omega), by omega, by go_num, by go_num, unhide HO3, unhide HB3, HS⟩
            case measure => simp [intOf]; omega
        · rw [if_neg h44] at hst
          have hc44 : ((t[k].toNat : Int) == 44) = false := by rw [← hb]; simp [h44]
          have HS : Hid (N = c + rn t E (k + 1) + (if i + 1 < E then 1 else 0)) := hide (by rw [unhide hr, hst])
          clear hst hb h1 h44 hr hown
          go_wp2_with (go_at_call 115; refine (rclosing_any _ _).mono ?_; rw [unhide hcC]; rintro e w' ⟨rfl, hw⟩; replace hw := hw.symm; subst hw)
          go_roundw
          case rel => exact ⟨k + 1, fr, c, xs, by omega, by omega, by omega, hfE, by omega, by go_num, rfl, unhide HO, unhide HB, HS⟩
          case measure => simp [intOf]; omega
      · rw [if_pos h1] at hst
        have hcC : cC (t[k].toNat : Int) ≠ 0 := by rw [← hb]; simpa [cO] using h1
        have hcC' : (cC (t[k].toNat : Int) != 0) = true := by simp [hcC]
        have HS : Hid (N = c + rn t E (mt t k + 1) + (if i + 1 < E then 1 else 0)) := hide (by rw [unhide hr, hst])
        clear hst hb h1 hr hown hcC
        go_wp2_with (first
          | (go_at_call 115; refine (rclosing_any _ _).mono ?_; rintro e w' ⟨rfl, hw⟩; replace hw := hw.symm; subst hw)
          | (go_at_call 153; refine (match_any t _ k _ ht rfl (by omega)).mono ?_; rintro e w' ⟨rfl, hw⟩; replace hw := hw.symm; subst hw))
        go_roundw
        case rel => exact ⟨mt t k + 1, fr, c, xs, by omega, by omega, by omega, hfE, by omega, by go_num, rfl, unhide HO, unhide HB, HS⟩
        case measure => simp [intOf]; omega
    · have hz : rn t E k = 0 := rn_end (by omega)
      by_cases hiE : i + 1 < E
      · have hS : N = c + 1 := by have h := unhide hr; rw [hz, if_pos hiE] at h; omega
        subst hS
        have hfE' : fr ≤ E := by omega
        clear hr hz
        go_wp2_with (at_builtin; refine wpList_append_lies _ rfl _ _ 103 rfl w.heap.size 9 i1 (.string ⟨#[]⟩) 1 16 Tryz.underlying103 hi1 hy0 hy1 hy2 rfl (by decide) _ _ _ rfl (hown.alloc _) ⟨_, 0, none⟩ 1 1 [.string (t.extract fr E)] rfl rfl ?c1 ?c2 ?c3 ?c4 ?c5 ?c6 _ rfl ?_)
        case c1 => exact World.news_of_block (heap_alloc_new _ _)
        case c2 => intro u hu; simp at hu; subst hu; rfl
        case c3 => omega
        case c4 => unfold maxLen; omega
        case c5 => omega
        case c6 => have := (unhide HB).size; simp; omega
        · intro g1 cap1 w3 hown3 hg3 hb3 hlt3
          have HB3 := hide (((unhide HB).alloc (unhide HB).size _).grown hg3 (by have := (unhide HB).size; simp; omega) (fun j hj => (hown.lt j hj).1))
          clear hown3 hg3 hb3 hlt3 hown
          go_wp2
          go_ret
          exact ⟨_, _, rfl, unhide HB3⟩
      · have hS : N = c := by have h := unhide hr; rw [hz, if_neg hiE] at h; omega
        subst hS
        obtain ⟨ao, cap, rfl⟩ : ∃ ao cap, u5 = .slice ao N cap := by
          rcases hown.2 with ⟨e, h0⟩ | ⟨g, cap, _, e, _⟩
          · exact ⟨none, 0, by rw [e, h0]⟩
          · exact ⟨_, cap, e⟩
        clear hr hz hown
        go_wp2
        go_ret
        exact ⟨ao, cap, rfl, unhide HB⟩
end Go.Proofs.YtnfaiaoipeholaaGreat
