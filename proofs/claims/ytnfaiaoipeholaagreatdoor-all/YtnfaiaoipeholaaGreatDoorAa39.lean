/- RCond RHolds RReduced RReduced2 -/
import Derived.Test.YtnfaiaoipeholaaGreatDoorAa38
import Derived.Test.YtnfaiaoipeholaaGreatDoorAa28
import Derived.Test.YtnfaiaoipeholaaGreatDoorAa08
namespace Go.Proofs.YtnfaiaoipeholaaGreatDoor
open Go.RowKit
/-- the pieces of a text -/
def pcT (s : ByteArray) (l : List (Nat × Nat)) : List ByteArray := l.map fun p => s.extract p.1 p.2
theorem bb_ne {a b : ByteArray} (h : ¬ a = b) : (a.toList == b.toList) = false := by
  rw [ByteArray.toList_eq, ByteArray.toList_eq]
  simp only [beq_eq_false_iff_ne, ne_eq]
  intro e
  apply h
  obtain ⟨x⟩ := a
  obtain ⟨y⟩ := b
  have : x = y := Array.toList_inj.1 e
  rw [this]
theorem bb_eq {a b : ByteArray} (h : a = b) : (a.toList == b.toList) = true := by subst h; simp
set_option maxHeartbeats 1000000 in
set_option maxRecDepth 1000000 in
theorem split_any (s : ByteArray) (c : Int) (w : World) (hs : s.size ≤ 10000000) : Calls Tryz.prog 40 #[.string s, .int .u8 c] w fun e w' => OutT (pcT s (cut s c)) w e w' := by
  obtain ⟨i1, hi1, hy0, hy1, hy2⟩ := info_parts Tryz.infoStr
  generalize hR : cut s c = R
  have HR := hide hR
  clear hR
  go_enter Tryz.func40, Tryz.ntmps40
  go_wp2
  go_loopw [5, 6, 7] (fun ov fv iv wr => ∃ (k fr : Nat) (D : List (Nat × Nat)) (ov' : Value), iv = .int .i64 k ∧ fv = .int .i64 fr ∧ ov = ov' ∧ k ≤ s.size ∧ fr ≤ k ∧ D.length ≤ k ∧ wr.ownsRow w.heap.size 9 1 ov' D.length (txs (pcT s D)) ∧ Below w.heap.size w wr ∧ Hid (R = D ++ cutF s c (s.size - k) k fr)) (fun _ _ iv _ => s.size - (intOf iv).toNat)
  case atStart => exact ⟨0, 0, [], _, rfl, rfl, rfl, Nat.zero_le _, Nat.le_refl _, Nat.le_refl _, World.ownsRow_nil w w.heap.size 9 1, Below.refl _ _, hide (by rw [← unhide HR]; rfl)⟩
  case round =>
    obtain ⟨k, fr, D, ov, rfl, rfl, hov, hk, hfr, hDl, hown, hbel, hr⟩ := hrel
    replace hov := hov.symm
    subst hov
    have HO := hide hown
    have HB := hide hbel
    by_cases hlt : k < s.size
    · have hbt := bt_at s k hlt
      have hst := unhide hr
      rw [show s.size - k = s.size - (k + 1) + 1 by omega] at hst
      unfold cutF at hst
      by_cases hc : bt s k = c
      · rw [if_pos hc] at hst
        have hc' : ((s[k].toNat : Int) == c) = true := by rw [← hbt]; simp [hc]
        have HS : Hid (R = (D ++ [(fr, k)]) ++ cutF s c (s.size - (k + 1)) (k + 1) (k + 1)) := hide (by rw [hst]; simp)
        clear hst hr hbt hc hbel
        go_wp2_with (first | (at_builtin; refine wpList_append_lies _ rfl _ _ 24 rfl w.heap.size 9 i1 (.string ⟨#[]⟩) 1 16 Tryz.underlying24 hi1 hy0 hy1 hy2 rfl (by decide) _ _ _ rfl (hown.alloc _) ⟨_, 0, none⟩ 1 1 [.string (s.extract fr k)] rfl rfl ?c1 ?c2 ?c3 ?c4 ?c5 ?c6 _ rfl ?_))
        case c1 => exact World.news_of_block (heap_alloc_new _ _)
        case c2 => intro u hu; simp at hu; subst hu; rfl
        case c3 => omega
        case c4 => unfold maxLen; omega
        case c5 => omega
        case c6 => have := (unhide HB).size; simp; omega
        · intro g1 cap1 w3 hown3 hg3 hb3 hlt3
          have HO3 : Hid (w3.ownsRow w.heap.size 9 1 (.slice (some ⟨g1, 0, none⟩) (D.length + 1) cap1) (D ++ [(fr, k)]).length (txs (pcT s (D ++ [(fr, k)])))) := hide (by
            rw [show pcT s (D ++ [(fr, k)]) = pcT s D ++ [s.extract fr k] by simp [pcT], txs_push, List.length_append]; exact hown3)
          have HB3 := hide (((unhide HB).alloc (unhide HB).size _).grown hg3 (by have := (unhide HB).size; simp; omega) (fun j hj => (hown.lt j hj).1))
          clear hown3 hg3 hb3 hlt3 hown HO HB
          go_wp2
          go_roundw
          case rel => exact ⟨k + 1, k + 1, D ++ [(fr, k)], _, by go_num, by go_num, rfl, by omega, by omega, by simp; omega, unhide HO3, unhide HB3, HS⟩
          case measure => simp [intOf]; omega
      · rw [if_neg hc] at hst
        have hc' : ((s[k].toNat : Int) == c) = false := by rw [← hbt]; simp [hc]
        have HS := hide hst
        clear hst hr hbt hc hbel hown
        go_wp2
        go_roundw
        case rel => exact ⟨k + 1, fr, D, _, by go_num, rfl, rfl, by omega, by omega, by omega, unhide HO, unhide HB, HS⟩
        case measure => simp [intOf]; omega
    · have e : k = s.size := by omega
      subst e
      have HS : Hid (R = D ++ [(fr, s.size)]) := hide (by rw [unhide hr, Nat.sub_self]; rfl)
      clear hr hbel
      go_wp2_with (first | (at_builtin; refine wpList_append_lies _ rfl _ _ 24 rfl w.heap.size 9 i1 (.string ⟨#[]⟩) 1 16 Tryz.underlying24 hi1 hy0 hy1 hy2 rfl (by decide) _ _ _ rfl (hown.alloc _) ⟨_, 0, none⟩ 1 1 [.string (s.extract fr s.size)] rfl rfl ?c1 ?c2 ?c3 ?c4 ?c5 ?c6 _ rfl ?_))
      case c1 => exact World.news_of_block (heap_alloc_new _ _)
      case c2 => intro u hu; simp at hu; subst hu; rfl
      case c3 => omega
      case c4 => unfold maxLen; omega
      case c5 => omega
      case c6 => have := (unhide HB).size; simp; omega
      · intro g1 cap1 w3 hown3 hg3 hb3 hlt3
        have HO3 : Hid (w3.ownsRow w.heap.size 9 1 (.slice (some ⟨g1, 0, none⟩) (D.length + 1) cap1) (pcT s R).length (txs (pcT s R))) := hide (by
          rw [unhide HS, show pcT s (D ++ [(fr, s.size)]) = pcT s D ++ [s.extract fr s.size] by simp [pcT], txs_push, List.length_append, show (pcT s D).length = D.length by simp [pcT]]; exact hown3)
        have HB3 := hide (((unhide HB).alloc (unhide HB).size _).grown hg3 (by have := (unhide HB).size; simp; omega) (fun j hj => (hown.lt j hj).1))
        clear hown3 hg3 hb3 hlt3 hown HO HB
        go_wp2
        go_ret
        exact ⟨_, rfl, unhide HO3, unhide HB3⟩

set_option maxHeartbeats 1000000 in
theorem refCondition_any (c : ByteArray) (w : World) (hc : c.size ≤ maxLen) : Calls Tryz.prog 79 #[.string c] w fun e w' => e = .returned (.bool (cnd c)) ∧ w' = w := by
  have hc' := hc
  unfold maxLen at hc'
  generalize hR : cnd c = R
  unfold cnd at hR
  have HR := hide hR
  clear hR
  by_cases hz : c.size ≤ 300
  · have HR2 : Hid (cdF c 0 = R) := hide (by rw [← unhide HR]; simp [hz, cdF])
    clear HR
    go_enter Tryz.func79, Tryz.ntmps79
    go_wp2
    go_loop [3] (fun iv => ∃ k : Nat, iv = .int .i64 k ∧ k ≤ c.size ∧ Hid (cdF c k = R)) (fun iv => c.size - (intOf iv).toNat)
    case atStart => exact ⟨0, rfl, Nat.zero_le _, HR2⟩
    case round =>
      obtain ⟨k, rfl, hk, hr⟩ := hrel
      by_cases hlt : k < c.size
      · have hst := unhide hr
        rw [cdF_step hlt] at hst
        have hbt := bt_at c k hlt
        have hbd := (c[k]).toNat_lt
        have hcb : cndB c k = (cL (bt c k) || bt c k == 44 || (bt c k == 33 && (k == 0 || bt c ((k : Int) - 1) == 44))) := rfl
        rw [hbt] at hcb
        generalize hx : ((c[k].toNat : Nat) : Int) = x at *
        clear hbt hr
        cases hl : cL x
        · have HL := hide hl
          by_cases h44 : x = 44
          · subst h44
            rw [show cndB c k = true by rw [hcb]; simp, Bool.true_and] at hst
            have HS := hide hst
            clear hst hl hcb
            by_cases h0 : k = 0
            · subst h0
              go_wp2_with (go_at_call 78; refine (letter_any _ _).mono ?_; rw [unhide HL]; rintro e w' ⟨rfl, rfl⟩)
              go_round
              case rel => exact ⟨0 + 1, by go_num, by omega, HS⟩
              case measure => simp [intOf]; omega
            · obtain ⟨m, rfl⟩ : ∃ m, k = m + 1 := ⟨k - 1, by omega⟩
              go_wp2_with (go_at_call 78; refine (letter_any _ _).mono ?_; rw [unhide HL]; rintro e w' ⟨rfl, rfl⟩)
              all_goals exact ⟨⟨m + 1 + 1, by go_num, by omega, HS⟩, by simp [intOf]; omega⟩
          · by_cases h33 : x = 33
            · subst h33
              by_cases h0 : k = 0
              · subst h0
                rw [show cndB c 0 = true by rw [hcb]; simp, Bool.true_and] at hst
                have HS := hide hst
                clear hst hl hcb
                go_wp2_with (go_at_call 78; refine (letter_any _ _).mono ?_; rw [unhide HL]; rintro e w' ⟨rfl, rfl⟩)
                go_round
                case rel => exact ⟨0 + 1, by go_num, by omega, HS⟩
                case measure => simp [intOf]; omega
              · obtain ⟨m, rfl⟩ : ∃ m, k = m + 1 := ⟨k - 1, by omega⟩
                have hbm := bt_at c m (by omega)
                have hcm : cndB c (m + 1) = (bt c m == 44) := by
                  rw [hcb, hl]
                  simp
                rw [hcm, hbm] at hst
                have hbd2 := (c[m]).toNat_lt
                cases hy : ((c[m].toNat : Int) == 44)
                · rw [hy, Bool.false_and] at hst
                  have HS := hide hst
                  clear hst hl hcb hcm hbm
                  go_wp2_with (go_at_call 78; refine (letter_any _ _).mono ?_; rw [unhide HL]; rintro e w' ⟨rfl, rfl⟩)
                  all_goals (go_ret; exact ⟨ret_bool (unhide HS), rfl⟩)
                · rw [hy, Bool.true_and] at hst
                  have HS := hide hst
                  clear hst hl hcb hcm hbm
                  go_wp2_with (go_at_call 78; refine (letter_any _ _).mono ?_; rw [unhide HL]; rintro e w' ⟨rfl, rfl⟩)
                  all_goals exact ⟨⟨m + 1 + 1, by go_num, by omega, HS⟩, by simp [intOf]; omega⟩
            · have h44' : (x != 44) = true := by simp [h44]
              have h33' : (x != 33) = true := by simp [h33]
              rw [show cndB c k = false by rw [hcb, hl]; simp [h44, h33], Bool.false_and] at hst
              have HS := hide hst
              clear hst hl hcb h44 h33
              by_cases h0 : k = 0
              · subst h0
                go_wp2_with (go_at_call 78; refine (letter_any _ _).mono ?_; rw [unhide HL]; rintro e w' ⟨rfl, rfl⟩)
                all_goals (go_ret; exact ⟨ret_bool (unhide HS), rfl⟩)
              · obtain ⟨m, rfl⟩ : ∃ m, k = m + 1 := ⟨k - 1, by omega⟩
                go_wp2_with (go_at_call 78; refine (letter_any _ _).mono ?_; rw [unhide HL]; rintro e w' ⟨rfl, rfl⟩)
                all_goals (go_ret; exact ⟨ret_bool (unhide HS), rfl⟩)
        · have HL := hide hl
          rw [show cndB c k = true by rw [hcb, hl]; simp, Bool.true_and] at hst
          have HS := hide hst
          clear hst hl hcb
          by_cases h0 : k = 0
          · subst h0
            go_wp2_with (go_at_call 78; refine (letter_any _ _).mono ?_; rw [unhide HL]; rintro e w' ⟨rfl, rfl⟩)
            go_round
            case rel => exact ⟨0 + 1, by go_num, by omega, HS⟩
            case measure => simp [intOf]; omega
          · obtain ⟨m, rfl⟩ : ∃ m, k = m + 1 := ⟨k - 1, by omega⟩
            go_wp2_with (go_at_call 78; refine (letter_any _ _).mono ?_; rw [unhide HL]; rintro e w' ⟨rfl, rfl⟩)
            all_goals exact ⟨⟨m + 1 + 1, by go_num, by omega, HS⟩, by simp [intOf]; omega⟩
      · have HS : Hid (true = R) := hide (by rw [← unhide hr, cdF_out (by omega)])
        clear hr
        go_wp2
        go_ret; exact ⟨ret_bool (unhide HS), rfl⟩
  · have HR2 : Hid (false = R) := hide (by rw [← unhide HR]; simp [hz])
    clear HR
    go_enter Tryz.func79, Tryz.ntmps79
    go_wp2
    go_ret; exact ⟨ret_bool (unhide HR2), rfl⟩

set_option maxHeartbeats 400000 in
theorem stands_any (u p : ByteArray) (w : World) (hp : p.size ≤ 300) (hu : u.size ≤ 10000) : Calls Tryz.prog 82 #[.string u, .string p] w fun e w' => e = .returned (.bool (stn u p)) ∧ w' = w := by
  generalize hR : stn u p = R
  have HR : Hid (snF u p 0 = R) := hide (by rw [snF_zero]; exact hR)
  clear hR
  go_enter Tryz.func82, Tryz.ntmps82
  go_wp2
  go_loop [5] (fun iv => ∃ k : Nat, iv = .int .i64 k ∧ k ≤ u.size + 1 ∧ Hid (snF u p k = R)) (fun iv => u.size + 1 - (intOf iv).toNat)
  case atStart => exact ⟨0, rfl, Nat.zero_le _, HR⟩
  case round =>
    obtain ⟨k, rfl, hk, hr⟩ := hrel
    by_cases hlt : k + p.size ≤ u.size
    · have hst := unhide hr
      rw [snF_step hlt] at hst
      by_cases h1 : u.extract k (k + p.size) = p
      · rw [if_pos h1] at hst
        have HS := hide hst
        have hne := bb_eq h1
        clear hst hr h1
        go_wp2
        go_ret; exact ⟨ret_bool (unhide HS), rfl⟩
      · rw [if_neg h1] at hst
        have HS := hide hst
        have hne := bb_ne h1
        clear hst hr h1
        go_wp2
        exact ⟨⟨k + 1, by go_num, by omega, HS⟩, by simp [intOf]; omega⟩
    · have HS : Hid (false = R) := hide (by rw [← unhide hr, snF_out (by omega)])
      clear hr
      go_wp2
      go_ret; exact ⟨ret_bool (unhide HS), rfl⟩
end Go.Proofs.YtnfaiaoipeholaaGreatDoor

namespace Go.Proofs.YtnfaiaoipeholaaGreatDoor
open Go.RowKit
theorem cutF_bd {s : ByteArray} {c : Int} : ∀ n i fr, fr ≤ i → i + n = s.size → ∀ p ∈ cutF s c n i fr, p.1 ≤ p.2 ∧ p.2 ≤ s.size
  | 0, i, fr, h, hn, p, hp => by
    simp [cutF] at hp
    rw [hp]; simp only; omega
  | n + 1, i, fr, h, hn, p, hp => by
    unfold cutF at hp
    split at hp
    · rcases List.mem_cons.1 hp with e | e
      · rw [e]; simp only; omega
      · exact cutF_bd n (i + 1) (i + 1) (Nat.le_refl _) (by omega) p e
    · exact cutF_bd n (i + 1) fr (by omega) (by omega) p hp
theorem cut_bd {s : ByteArray} {c : Int} : ∀ p ∈ cut s c, p.1 ≤ p.2 ∧ p.2 ≤ s.size := cutF_bd _ _ _ (Nat.le_refl _) (by omega)
theorem cutF_len {s : ByteArray} {c : Int} : ∀ n i fr, (cutF s c n i fr).length ≤ n + 1
  | 0, i, fr => by simp [cutF]
  | n + 1, i, fr => by
    unfold cutF
    split
    · have := cutF_len (s := s) (c := c) n (i + 1) (i + 1); simp; omega
    · have := cutF_len (s := s) (c := c) n (i + 1) fr; omega
/-- the parts behind some hold -/
def hlD (c w : ByteArray) (k : Nat) : Bool := ((cut c 44).drop k).all fun q => prh c w q.1 q.2
theorem hlD_zero (c w : ByteArray) : hlD c w 0 = hld c w := by unfold hlD hld; rfl
theorem hlD_out {c w : ByteArray} {k : Nat} (h : (cut c 44).length ≤ k) : hlD c w k = true := by unfold hlD; rw [List.drop_eq_nil_of_le h]; rfl
theorem hlD_step {c w : ByteArray} {k : Nat} (h : k < (cut c 44).length) : hlD c w k = (ptx (c.extract (cut c 44)[k].1 (cut c 44)[k].2) w && hlD c w (k + 1)) := by
  have hb := cut_bd (s := c) (c := 44) _ (List.getElem_mem h)
  unfold hlD
  rw [List.drop_eq_getElem_cons h, List.all_cons, prh_ptx hb.1 hb.2]
/-- a row of texts, read -/
theorem row_txt {w : World} {B : Nat} {v : Value} {L : List ByteArray} (h : w.ownsRow B 9 1 v L.length (txs L)) : ∃ ao cap, v = .slice ao L.length cap ∧ ∀ k (hk : k < L.length), ∃ g, ao = some ⟨g, 0, none⟩ ∧ L.length ≤ cap ∧ w.cell? ⟨g, k, none⟩ = some (.string L[k]) := by
  rcases h.2 with ⟨e, h0⟩ | ⟨g, cap, cur, e, _, _, hc, _⟩
  · exact ⟨none, 0, by rw [e, h0], fun k hk => by omega⟩
  · refine ⟨some ⟨g, 0, none⟩, cap, e, fun k hk => ⟨g, rfl, hc, ?_⟩⟩
    subst e
    rw [h.cellAt k (by omega)]
    unfold txs
    rw [List.getElem?_map, List.getElem?_eq_getElem hk]; rfl

set_option maxHeartbeats 1000000 in
set_option maxRecDepth 1000000 in
theorem refHolds_any (c u : ByteArray) (w : World) (hc : c.size ≤ 300) (hu : u.size ≤ 10000) : Calls Tryz.prog 43 #[.string c, .string u] w fun e w' => e = .returned (.bool (hld c u)) ∧ Below w.heap.size w w' := by
  generalize hR : hld c u = R
  have HR : Hid (hlD c u 0 = R) := hide (by rw [hlD_zero]; exact hR)
  clear hR
  have hcl : (cut c 44).length ≤ c.size + 1 := cutF_len _ _ _
  go_enter Tryz.func43, Tryz.ntmps43
  go_wp2_with fail
  refine (split_any c 44 _ (by omega)).mono ?_
  rintro e w1 ⟨v, rfl, hown, hb1⟩
  obtain ⟨ao, cap, rfl, hcs⟩ := row_txt hown
  have hpl : (pcT c (cut c 44)).length = (cut c 44).length := by simp [pcT]
  have HB := hide hb1
  have HC : Hid (∀ k (hk : k < (cut c 44).length), ∃ g, ao = some ⟨g, 0, none⟩ ∧ (cut c 44).length ≤ cap ∧ w1.cell? ⟨g, k, none⟩ = some (.string (c.extract (cut c 44)[k].1 (cut c 44)[k].2))) := hide (fun k hk => by
    obtain ⟨g, h1, h2, h3⟩ := hcs k (by rw [hpl]; exact hk)
    refine ⟨g, h1, by rw [← hpl]; exact h2, ?_⟩
    rw [h3]
    simp [pcT])
  rw [hpl]
  clear hown hb1 hcs hpl
  have HBD := hide (cut_bd (s := c) (c := 44))
  go_wp2_with fail
  go_loopw [6] (fun iv wr => ∃ k : Nat, iv = .int .i64 k ∧ k ≤ (cut c 44).length ∧ wr.heap = w1.heap ∧ Hid (Below w.heap.size w wr) ∧ Hid (hlD c u k = R)) (fun iv _ => (cut c 44).length - (intOf iv).toNat)
  case atStart => exact ⟨0, rfl, Nat.zero_le _, rfl, HB, HR⟩
  case round =>
    obtain ⟨k, rfl, hk, hhe, hBr, hr⟩ := hrel
    clear HR HB
    by_cases hlt : k < (cut c 44).length
    · obtain ⟨g, rfl, hcap, c0⟩ := unhide HC k hlt
      have c1 : wr.cell? ⟨g, k, none⟩ = some (.string (c.extract (cut c 44)[k].1 (cut c 44)[k].2)) := by
        have : wr.cell? ⟨g, k, none⟩ = w1.cell? ⟨g, k, none⟩ := World.cell?_of_block (a := ⟨g, k, none⟩) (by rw [hhe])
        rw [this]; exact c0
      have hbd := unhide HBD _ (List.getElem_mem hlt)
      have hst := unhide hr
      rw [hlD_step hlt] at hst
      have hpz : (c.extract (cut c 44)[k].1 (cut c 44)[k].2).size ≤ 300 := by rw [ext_size c hbd.2]; omega
      generalize c.extract (cut c 44)[k].1 (cut c 44)[k].2 = p at *
      have hhe' : (wr.drew).heap = w1.heap := hhe
      cases h33 : decide (bt p (0 : Nat) = 33)
      · have h33' : ¬ bt p (0 : Nat) = 33 := by simpa using h33
        have hpt : ptx p u = stn u p := by unfold ptx; rw [if_neg h33']
        rw [hpt] at hst
        have HST : Hid (stn u p = (stn u p && true) ∧ Calls Tryz.prog 82 #[.string u, .string p] wr (fun e w' => e = .returned (.bool (stn u p)) ∧ w' = wr)) := hide ⟨by simp, stands_any u p wr hpz hu⟩
        have HSA := hide (fun w => stands_any u p w hpz hu)
        generalize stn u p = sb at *
        by_cases hz : p.size = 0
        · clear hpt h33 h33' HST
          cases sb
          · rw [Bool.false_and] at hst
            have HS := hide hst
            clear hst hr
            go_wp2_with (go_at_call 82; refine (unhide HSA _).mono ?_; rintro e w' ⟨rfl, hw⟩; replace hw := hw.symm; subst hw)
            all_goals (go_ret; exact ⟨ret_bool (unhide HS), unhide hBr⟩)
          · rw [Bool.true_and] at hst
            have HS := hide hst
            clear hst hr
            go_wp2_with (go_at_call 82; refine (unhide HSA _).mono ?_; rintro e w' ⟨rfl, hw⟩; replace hw := hw.symm; subst hw)
            go_roundw
            case rel => exact ⟨k + 1, by go_num, by omega, hhe, hBr, HS⟩
            case measure => simp [intOf]; omega
        · have hp0 : 0 < p.size := by omega
          have hb0 := bt_at p 0 hp0
          have hx : ((p[0].toNat : Int) == 33) = false := by
            rw [hb0] at h33'
            simp [h33']
          clear hpt h33 h33' HST hb0
          cases sb
          · rw [Bool.false_and] at hst
            have HS := hide hst
            clear hst hr
            go_wp2_with (go_at_call 82; refine (unhide HSA _).mono ?_; rintro e w' ⟨rfl, hw⟩; replace hw := hw.symm; subst hw)
            all_goals (go_ret; exact ⟨ret_bool (unhide HS), unhide hBr⟩)
          · rw [Bool.true_and] at hst
            have HS := hide hst
            clear hst hr
            go_wp2_with (go_at_call 82; refine (unhide HSA _).mono ?_; rintro e w' ⟨rfl, hw⟩; replace hw := hw.symm; subst hw)
            go_roundw
            case rel => exact ⟨k + 1, by go_num, by omega, hhe, hBr, HS⟩
            case measure => simp [intOf]; omega
      · have h33' : bt p (0 : Nat) = 33 := by simpa using h33
        have hp0 : 0 < p.size := bt_lt (by rw [h33']; decide)
        have hb0 := bt_at p 0 hp0
        have hx : ((p[0].toNat : Int) == 33) = true := by rw [← hb0, h33']; rfl
        have hpt : ptx p u = !stn u (p.extract 1 p.size) := by unfold ptx; rw [if_pos h33']
        rw [hpt] at hst
        have hqz : (p.extract 1 p.size).size ≤ 300 := by rw [ext_size p (Nat.le_refl _)]; omega
        have HSA := hide (fun w => stands_any u (p.extract 1 p.size) w hqz hu)
        generalize stn u (p.extract 1 p.size) = sb at *
        clear hpt h33 h33' hb0 hqz
        cases sb
        · simp only [Bool.not_false, Bool.true_and] at hst
          have HS := hide hst
          clear hst hr
          go_wp2_with (go_at_call 82; refine (unhide HSA _).mono ?_; rintro e w' ⟨rfl, hw⟩; replace hw := hw.symm; subst hw)
          go_roundw
          case rel => exact ⟨k + 1, by go_num, by omega, hhe, hBr, HS⟩
          case measure => simp [intOf]; omega
        · simp only [Bool.not_true, Bool.false_and] at hst
          have HS := hide hst
          clear hst hr
          go_wp2_with (go_at_call 82; refine (unhide HSA _).mono ?_; rintro e w' ⟨rfl, hw⟩; replace hw := hw.symm; subst hw)
          all_goals (go_ret; exact ⟨ret_bool (unhide HS), unhide hBr⟩)
    · have HS : Hid (true = R) := hide (by rw [← unhide hr, hlD_out (by omega)])
      clear hr
      go_wp2
      go_ret; exact ⟨ret_bool (unhide HS), unhide hBr⟩

set_option maxHeartbeats 400000 in
/-- a text that is among those -/
theorem has_yes {w : World} {B : Nat} {v : Value} {L : List ByteArray} (h : w.ownsRow B 9 1 v L.length (txs L)) (hL : L.length ≤ 10000000) (x : ByteArray) (hx : x ∈ L) : Calls Tryz.prog 41 #[v, .string x] w fun e w' => e = .returned (.bool true) ∧ w' = w := by
  obtain ⟨ao, cap, rfl, hcs⟩ := row_txt h
  clear h
  have HC := hide hcs
  have HX : Hid (x ∈ L.drop 0) := hide (by simpa using hx)
  clear hcs hx
  go_enter Tryz.func41, Tryz.ntmps41
  go_wp2
  go_loop [5] (fun iv => ∃ k : Nat, iv = .int .i64 k ∧ k ≤ L.length ∧ Hid (x ∈ L.drop k)) (fun iv => L.length - (intOf iv).toNat)
  case atStart => exact ⟨0, rfl, Nat.zero_le _, HX⟩
  case round =>
    obtain ⟨k, rfl, hk, hr⟩ := hrel
    clear HX
    by_cases hlt : k < L.length
    · obtain ⟨g, rfl, hcap, c0⟩ := unhide HC k hlt
      by_cases he : L[k] = x
      · have hb := bb_eq he
        generalize L[k] = y at *
        clear hr he HC
        go_wp2
        go_ret; exact ⟨rfl, rfl⟩
      · have HS : Hid (x ∈ L.drop (k + 1)) := hide (by
          have := unhide hr
          rw [List.drop_eq_getElem_cons hlt, List.mem_cons] at this
          exact this.resolve_left (fun q => he q.symm))
        have hb := bb_ne he
        generalize L[k] = y at *
        clear hr he HC
        go_wp2
        exact ⟨⟨k + 1, by go_num, by omega, HS⟩, by simp [intOf]; omega⟩
    · have := unhide hr
      rw [List.drop_eq_nil_of_le (by omega)] at this
      simp at this

set_option maxHeartbeats 1000000 in
set_option maxRecDepth 1000000 in
/-- none of these texts' words meets the condition -/
theorem fixed_any {w : World} {B : Nat} {v : Value} {L : List ByteArray} (c : ByteArray) (hc : c.size ≤ 300) (h : w.ownsRow B 9 1 v L.length (txs L)) (hL : L.length ≤ 10000000) (hz : ∀ x ∈ L, x.size ≤ 2000) (hf : ∀ x ∈ L, hld c (wd x) = false) : Calls Tryz.prog 44 #[.string c, v] w fun e w' => e = .returned (.bool true) ∧ Below w.heap.size w w' := by
  have HO := hide h
  obtain ⟨ao, cap, rfl, _⟩ := row_txt h
  clear h
  go_enter Tryz.func44, Tryz.ntmps44
  go_wp2
  go_loopw [5] (fun iv wr => ∃ k : Nat, iv = .int .i64 k ∧ k ≤ L.length ∧ Hid (wr.ownsRow B 9 1 (.slice ao L.length cap) L.length (txs L)) ∧ Hid (Below w.heap.size w wr)) (fun iv _ => L.length - (intOf iv).toNat)
  case atStart => exact ⟨0, rfl, Nat.zero_le _, HO, hide (Below.refl _ _)⟩
  case round =>
    obtain ⟨k, rfl, hk, hO, hB⟩ := hrel
    clear HO
    by_cases hlt : k < L.length
    · obtain ⟨ao', cap', e1, hcs⟩ := row_txt (unhide hO)
      cases e1
      obtain ⟨g, rfl, hcap, c0⟩ := hcs k hlt
      have hxz := hz _ (List.getElem_mem hlt)
      have hxf := hf _ (List.getElem_mem hlt)
      have hwz := wd_size L[k]
      generalize L[k] = y at *
      have HF := hide hxf
      clear hxf hcs
      go_wp2_with (first
        | (go_at_call 38; refine (refWord_any y _ (by unfold maxLen; omega)).mono ?_; rintro e w' ⟨rfl, hw⟩; replace hw := hw.symm; subst hw)
        | fail)
      refine (refHolds_any c _ _ hc (by omega)).mono ?_
      rw [unhide HF]
      rintro e w2 ⟨rfl, hb2⟩
      have HO2 := hide (owns_on (unhide hO) hb2)
      have HB2 := hide ((unhide hB).trans (hb2.mono (unhide hB).size))
      clear hb2 hO hB c0
      go_wp2
      go_roundw
      case rel => exact ⟨k + 1, by go_num, by omega, HO2, HB2⟩
      case measure => simp [intOf]; omega
    · go_wp2
      go_ret; exact ⟨rfl, unhide hB⟩
end Go.Proofs.YtnfaiaoipeholaaGreatDoor

namespace Go.Proofs.YtnfaiaoipeholaaGreatDoor
open Go.RowKit
section
variable {s t c : ByteArray}
set_option maxHeartbeats 1000000 in
set_option maxRecDepth 1000000 in
theorem refusal_any (w : World) (hs : s.size ≤ maxLen) (ht : t.size ≤ maxLen) (hc : c.size ≤ maxLen) (bud : Int) : Calls Tryz.prog 39 #[.string s, .string t, .string c, .int .i64 bud] w fun e w' => e = .returned (.int .i64 (rfs s t c bud)) ∧ Below w.heap.size w w' := by
  generalize hR : rfs s t c bud = R
  unfold rfs at hR
  by_cases h1 : (hgt s t).2 = 0
  · obtain ⟨_, f, n, hf, hn⟩ := hgt_tree h1
    have hz := hf.le
    have HW := hide hn
    have hwz := wd_size t
    rw [if_neg (by simp [h1])] at hR
    clear h1 hf hn
    cases h2 : cnd c
    · rw [if_pos h2] at hR
      subst hR
      have H2 := hide h2
      clear h2
      go_enter Tryz.func39, Tryz.ntmps39
      go_wp2_with (first
        | (go_at_call 16; refine (refHeight_any _ _ _ hs ht).mono ?_; rw [unhide HW]; rintro e w2 ⟨rfl, hb2⟩; replace hb2 := hide hb2)
        | (go_at_call 79; refine (refCondition_any _ _ hc).mono ?_; rw [unhide H2]; rintro e w3 ⟨rfl, hw⟩; replace hw := hw.symm; subst hw))
      all_goals (go_ret; exact ⟨rfl, unhide hb2⟩)
    · have hc3 : c.size ≤ 300 := by
        unfold cnd at h2
        simp only [Bool.and_eq_true, decide_eq_true_eq] at h2
        exact h2.1
      rw [if_neg (by simp [h2])] at hR
      have H2 := hide h2
      by_cases h3 : bud < 0 ∨ 9999 < bud
      · rw [if_pos h3] at hR
        subst hR
        clear h2
        go_enter Tryz.func39, Tryz.ntmps39
        go_wp2_with (first
          | (go_at_call 16; refine (refHeight_any _ _ _ hs ht).mono ?_; rw [unhide HW]; rintro e w2 ⟨rfl, hb2⟩; replace hb2 := hide hb2)
          | (go_at_call 79; refine (refCondition_any _ _ hc).mono ?_; rw [unhide H2]; rintro e w3 ⟨rfl, hw⟩; replace hw := hw.symm; subst hw))
        all_goals first
          | (go_ret; exact ⟨rfl, unhide hb2⟩)
          | (exfalso; omega)
      · rw [if_neg h3] at hR
        have HD : Hid (Calls Tryz.prog 39 #[.string s, .string t, .string c, .int .i64 bud] w (fun e w' => e = .returned (.int .i64 R) ∧ Below w.heap.size w w') → True) := hide (fun _ => trivial)
        clear HD
        cases h4 : hld c (wd t)
        · rw [if_pos h4] at hR
          subst hR
          have H4 := hide h4
          clear h2 h4
          go_enter Tryz.func39, Tryz.ntmps39
          go_wp2_with (first
            | (go_at_call 16; refine (refHeight_any _ _ _ hs ht).mono ?_; rw [unhide HW]; rintro e w2 ⟨rfl, hb2⟩; replace hb2 := hide hb2)
            | (go_at_call 79; refine (refCondition_any _ _ hc).mono ?_; rw [unhide H2]; rintro e w3 ⟨rfl, hw⟩; replace hw := hw.symm; subst hw)
            | (go_at_call 38; refine (refWord_any _ _ ht).mono ?_; rintro e w3 ⟨rfl, hw⟩; replace hw := hw.symm; subst hw)
            | (go_at_call 43; refine (refHolds_any c _ _ hc3 (by omega)).mono ?_; rw [unhide H4]; rintro e w4 ⟨rfl, hb4⟩; replace hb4 := hide hb4))
          all_goals first
            | (go_ret; exact ⟨rfl, (unhide hb2).trans ((unhide hb4).mono (unhide hb2).size)⟩)
            | (exfalso; omega)
        · rw [if_neg (by simp [h4])] at hR
          subst hR
          have H4 := hide h4
          clear h2 h4
          go_enter Tryz.func39, Tryz.ntmps39
          go_wp2_with (first
            | (go_at_call 16; refine (refHeight_any _ _ _ hs ht).mono ?_; rw [unhide HW]; rintro e w2 ⟨rfl, hb2⟩; replace hb2 := hide hb2)
            | (go_at_call 79; refine (refCondition_any _ _ hc).mono ?_; rw [unhide H2]; rintro e w3 ⟨rfl, hw⟩; replace hw := hw.symm; subst hw)
            | (go_at_call 38; refine (refWord_any _ _ ht).mono ?_; rintro e w3 ⟨rfl, hw⟩; replace hw := hw.symm; subst hw)
            | (go_at_call 43; refine (refHolds_any c _ _ hc3 (by omega)).mono ?_; rw [unhide H4]; rintro e w4 ⟨rfl, hb4⟩; replace hb4 := hide hb4))
          all_goals first
            | (go_ret; exact ⟨rfl, (unhide hb2).trans ((unhide hb4).mono (unhide hb2).size)⟩)
            | (exfalso; omega)
  · rw [if_pos h1] at hR
    have h1' : ((hgt s t).2 != 0) = true := by simp [h1]
    subst hR
    clear h1
    go_enter Tryz.func39, Tryz.ntmps39
    go_wp2_with (first
      | (go_at_call 16; refine (refHeight_any _ _ _ hs ht).mono ?_; rintro e w2 ⟨rfl, hb2⟩; replace hb2 := hide hb2))
    all_goals (go_ret; exact ⟨rfl, unhide hb2⟩)
end
end Go.Proofs.YtnfaiaoipeholaaGreatDoor

namespace Go.Proofs.YtnfaiaoipeholaaGreatDoor
open Go.RowKit
theorem keepTwo {W w' : World} {g j k : Nat} {x y : Value} (h : Below W.heap.size W w') (e0 : W.cell? ⟨g, j, none⟩ = some x) (e1 : W.cell? ⟨g, k, none⟩ = some y) :
    w'.cell? ⟨g, j, none⟩ = some x ∧ w'.cell? ⟨g, k, none⟩ = some y :=
  ⟨(h.cell (p := ⟨g, j, none⟩) (World.block_lt_of_cell? W _ e0)).trans e0, (h.cell (p := ⟨g, k, none⟩) (World.block_lt_of_cell? W _ e1)).trans e1⟩
section
variable {s t c : ByteArray}
theorem stpT_len {f : TF} (h : TreeOf s t f) : (stpT t).length ≤ 4002000 := by
  have h1 := upT_len h.le t.size
  have h2 : t.size * 2001 ≤ 2000 * 2001 := Nat.mul_le_mul_right _ h.le
  have e : stpT t = upT t t.size := rfl
  rw [e]; omega
set_option maxHeartbeats 2000000 in
set_option maxRecDepth 1000000 in
theorem refReduced_yes {bd : Nat} {f : TF} {r : List ByteArray} {a y : Nat} (w : World) (hs : s.size ≤ maxLen) (hc : c.size ≤ maxLen) (h0 : rfs s t c bd = 0) (h : Rdc s t c bd f r a y) :
    Calls Tryz.prog 20 #[.string s, .string t, .string c, .int .i64 (bd : Int), .string (strOfNums (wayL (t :: r))), .int .i64 (a : Int), .int .i64 (y : Int), .int .i64 0] w fun e w' => e = .returned (.bool true) ∧ Below w.heap.size w w' := by
  have hz := h.tree.le
  have ht : t.size ≤ maxLen := by unfold maxLen; omega
  have hc3 : c.size ≤ 300 := by
    have h2 := h.cnd
    unfold cnd at h2
    simp only [Bool.and_eq_true, decide_eq_true_eq] at h2
    exact h2.1
  have hrl : r.length ≤ 2000 := by
    have := (way_trees h.gram r t f h.tree h.way).2.2.1
    omega
  have HTR := hide (way_tree h.gram r t f h.tree h.way)
  have hwz : (strOfNums (wayL (t :: r))).size ≤ 10000000 := by
    rw [strOfNums_size]
    have h1 := wayL_len (t :: r) 2000 (fun u hu => by obtain ⟨f', hf'⟩ := unhide HTR u hu; exact hf'.le)
    have h2 : (t :: r).length * (2000 + 1) ≤ 2001 * 2001 := Nat.mul_le_mul (by simp; omega) (Nat.le_refl _)
    omega
  obtain ⟨hcut1, hcut2⟩ := way_cut h.gram h.tree h.way
  have hpc : pcT (strOfNums (wayL (t :: r))) (cut (strOfNums (wayL (t :: r))) 10) = t :: r := by unfold pcT; rw [hcut1]; exact hcut2
  have HPC := hide hpc
  have HRF := hide h0
  have HH := hide h
  have hab := h.ask
  have hle := h.le
  have HWA := hide (way_at r t h.way)
  have HLA := hide (lastT_at r t)
  have HLM := hide (unhide HTR _ (last_mem r t))
  have hfew := h.few
  have HST := hide (stpT_len h.tree)
  clear hcut1 hcut2 hpc h0 h
  generalize strOfNums (wayL (t :: r)) = way at *
  generalize hN1 : (stpT t).length = N1 at *
  have hN1b := unhide HST
  have HN1 := hide hN1
  clear hN1
  go_enter Tryz.func20, Tryz.ntmps20
  go_wp2_with fail
  refine (refusal_any _ hs ht hc _).mono ?_
  rw [unhide HRF]
  rintro e w1 ⟨rfl, hb1⟩
  go_wp2_with fail
  refine (split_any way 10 _ hwz).mono ?_
  rw [unhide HPC]
  rintro e w2 ⟨v, rfl, hown2, hb2⟩
  have HO2 := hide hown2
  have HB2 := hide (hb1.trans (hb2.mono hb1.size))
  obtain ⟨ao, cap, rfl, hcs⟩ := row_txt hown2
  obtain ⟨g, rfl, hcap, c0⟩ := hcs 0 (by simp)
  have hll : (t :: r).length = r.length + 1 := by simp
  simp only [List.getElem_cons_zero] at c0
  clear hown2 hb1 hb2 hcs HPC
  rw [hll] at hcap HO2 ⊢
  go_wp2_with fail
  clear c0
  go_loopw [19] (fun iv wr => ∃ m : Nat, iv = .int .i64 ((m : Int) + 1) ∧ m ≤ r.length ∧ Hid (wr.ownsRow w1.heap.size 9 1 (.slice (some ⟨g, 0, none⟩) (r.length + 1) cap) (r.length + 1) (txs (t :: r))) ∧ Hid (Below w.heap.size w wr)) (fun iv _ => r.length + 1 - (intOf iv).toNat)
  case atStart => exact ⟨0, rfl, Nat.zero_le _, HO2, HB2⟩
  case round =>
    obtain ⟨m, rfl, hm, hO, hB⟩ := hrel
    clear HO2 HB2
    by_cases hlt : m < r.length
    · obtain ⟨x, hx, hyx, hyh⟩ := unhide HWA m r[m] (List.getElem?_eq_getElem hlt)
      have hym : r[m] ∈ t :: r := by simp
      have hxm : x ∈ t :: r := List.mem_of_getElem? hx
      obtain ⟨fx, hfx⟩ := unhide HTR x hxm
      obtain ⟨fy, hfy⟩ := unhide HTR _ hym
      have cx : wr.cell? ⟨g, m, none⟩ = some (.string x) := by
        rw [(unhide hO).cellAt m (by omega)]
        unfold txs
        rw [List.getElem?_map, hx]; rfl
      have cy : wr.cell? ⟨g, m + 1, none⟩ = some (.string r[m]) := by
        rw [(unhide hO).cellAt (m + 1) (by omega)]
        unfold txs
        rw [List.getElem?_map, List.getElem?_cons_succ, List.getElem?_eq_getElem hlt]; rfl
      have hyz := hfy.le
      have hsl := stpT_len hfx
      have hwy := wd_size r[m]
      generalize r[m] = yt at *
      have HY := hide hyx
      have HYH := hide hyh
      have HFX := hide hfx
      clear hx hyx hyh hfx hfy hym hxm
      have HSL := hide hsl
      clear hsl
      have q1 : IntKind.i64.wrap ((m : Int)) = (m : Int) := by rw [IntKind.wrap_i64]; omega
      have q2 : m < r.length + 1 := by omega
      have q3 : (m : Int) < (r.length : Int) + 1 := by omega
      have q4 : 0 ≤ (m : Int) + 1 ∧ (m : Int) + 1 < (r.length : Int) + 1 := by omega
      have q5 : (m : Int) < (r.length : Int) := by omega
      have q6 : 0 ≤ (m : Int) + 1 ∧ (m : Int) < (r.length : Int) := by omega
      go_wp2_with fail
      go_region_held (fun w' => w'.cell? ⟨g, m, none⟩ = some (.string x) ∧ w'.cell? ⟨g, m + 1, none⟩ = some (.string yt)) (first | exact keepTwo ((Below.refl _ _).drew) cx cy | exact keepTwo (((Below.refl wr.heap.size wr).drew).trans hb3) cx cy) (first | (go_at_call 42; refine (refSteps_any (unhide HFX) _).mono ?_; rintro e w3 ⟨vs, rfl, ho3, hb3⟩) | (go_at_call 41; refine (has_yes ho3 (by have := unhide HSL; omega) yt (unhide HY)).mono ?_; rintro e w4 ⟨rfl, hw⟩; replace hw := hw.symm; subst hw))
      have hb3' : Below wr.heap.size wr w3 := ((Below.refl wr.heap.size wr).drew).trans hb3
      obtain ⟨_, cy3⟩ := keepTwo hb3' cx cy
      have HO3 := hide (owns_on (unhide hO) hb3')
      have HB3 := hide ((unhide hB).trans (hb3'.mono (unhide hB).size))
      clear hb3 hb3' cx cy hO hB ho3 HY
      go_wp2_with (first
        | (go_at_call 38; refine (refWord_any yt _ (by unfold maxLen; omega)).mono ?_; rintro e w' ⟨rfl, hw⟩; replace hw := hw.symm; subst hw)
        | fail)
      refine (refHolds_any c _ _ hc3 (by omega)).mono ?_
      rw [unhide HYH]
      rintro e w5 ⟨rfl, hb5⟩
      have HO5 := hide (owns_on (unhide HO3) hb5)
      have HB5 := hide ((unhide HB3).trans (hb5.mono (unhide HB3).size))
      clear hb5 HO3 HB3 cy3
      go_wp2
      go_roundw
      case rel => exact ⟨m + 1, by go_num, by omega, HO5, HB5⟩
      case measure => simp [intOf]; omega
    · have e : m = r.length := by omega
      subst e
      have hprod : ((r.length : Int) + 1) * (N1 : Int) = (((1 + r.length) * N1 : Nat) : Int) := by
        rw [Int.natCast_mul, Int.natCast_add]; congr 1; omega
      have hpb : (1 + r.length) * N1 ≤ 2001 * 4002000 := Nat.mul_le_mul (by omega) hN1b
      generalize (1 + r.length) * N1 = PP at *
      obtain ⟨fl, hfl⟩ := unhide HLM
      have hNl := stpT_len hfl
      have hwhy := (unhide HH).why
      have HFL := hide hfl
      have HTT := hide (unhide HH).tree
      have cl : wr.cell? ⟨g, r.length, none⟩ = some (.string (lastT t r)) := by
        rw [(unhide hO).cellAt r.length (by omega)]
        unfold txs
        rw [List.getElem?_map, unhide HLA]; rfl
      have HZL : Hid (∀ x ∈ stpT (lastT t r), x.size ≤ 2000) := hide (fun x hx => by
        obtain ⟨_, f', hf'⟩ := stp_of (unhide HH).gram (unhide HFL) hx
        exact hf'.le)
      generalize lastT t r = lt at *
      have HWY := hide hwhy
      clear hfl hwhy HH HWA HTR HLA HLM
      go_wp2_with fail
      refine (refSteps_any (unhide HTT) _).mono ?_
      rintro e w3 ⟨va, rfl, ho3, hb3⟩
      obtain ⟨ao3, cap3, rfl, _⟩ := row_txt ho3
      rw [unhide HN1]
      have cl3 := (hb3.cell (p := ⟨g, r.length, none⟩) (World.block_lt_of_cell? wr _ cl)).trans cl
      have HB3 := hide ((unhide hB).trans (hb3.mono (unhide hB).size))
      clear ho3 hb3 cl hO hB
      go_wp2_with fail
      refine (refSteps_any (unhide HFL) _).mono ?_
      rintro e w4 ⟨vl, rfl, ho4, hb4⟩
      have HO4 := hide ho4
      obtain ⟨ao4, cap4, rfl, hq4⟩ := row_txt ho4
      clear hq4
      have HB4 := hide ((unhide HB3).trans (hb4.mono (unhide HB3).size))
      clear ho4 hb4 HB3 cl3
      rcases unhide HWY with ⟨rfl, hn⟩ | ⟨rfl, rfl, hn⟩
      · have HN := hide hn
        clear hn HWY
        go_wp2_with fail
        refine (fixed_any c hc3 (unhide HO4) (by omega) (unhide HZL) (unhide HN)).mono ?_
        rintro e w5 ⟨rfl, hb5⟩
        have HB5 := hide ((unhide HB4).trans (hb5.mono (unhide HB4).size))
        clear hb5 HB4
        go_wp2
        all_goals (go_ret; exact ⟨rfl, unhide HB5⟩)
      · clear HWY
        generalize (stpT lt).length = NL at *
        go_wp2
        all_goals first
          | (go_ret; exact ⟨ret_bool (by simp; omega), unhide HB4⟩)
          | (go_ret; exact ⟨rfl, unhide HB4⟩)
set_option maxHeartbeats 2000000 in
set_option maxRecDepth 1000000 in
theorem refReduced_no {bud : Int} (w : World) (hs : s.size ≤ maxLen) (ht : t.size ≤ maxLen) (hc : c.size ≤ maxLen) (h0 : rfs s t c bud ≠ 0) :
    Calls Tryz.prog 20 #[.string s, .string t, .string c, .int .i64 bud, .string ⟨#[]⟩, .int .i64 0, .int .i64 0, .int .i64 (rfs s t c bud)] w fun e w' => e = .returned (.bool true) ∧ Below w.heap.size w w' := by
  have HC := hide (refusal_any (s := s) (t := t) (c := c) w hs ht hc bud)
  generalize rfs s t c bud = x at *
  have h1 : (x != 0) = true := by simp [h0]
  go_enter Tryz.func20, Tryz.ntmps20
  go_wp2_with fail
  refine (unhide HC).mono ?_
  rintro e w1 ⟨rfl, hb1⟩
  have HB := hide hb1
  clear hb1 HC
  go_wp2
  all_goals (go_ret; exact ⟨ret_bool (by simp), unhide HB⟩)
/-- what Reduce answers may be answered -/
theorem refReduced_true (w : World) (hs : s.size ≤ maxLen) (ht : t.size ≤ maxLen) (hc : c.size ≤ maxLen) (bud : Int) :
    Calls Tryz.prog 20 #[.string s, .string t, .string c, .int .i64 bud, .string (rdc s t c bud).1, .int .i64 ((rdc s t c bud).2.1 : Int), .int .i64 ((rdc s t c bud).2.2.1 : Int), .int .i64 (rdc s t c bud).2.2.2] w fun e w' => e = .returned (.bool true) ∧ Below w.heap.size w w' := by
  by_cases h : rfs s t c bud = 0
  · obtain ⟨f, r, a, y, e, hr⟩ := rdc_ok h
    have hb := (rfs_zero h).2.2
    obtain ⟨bd, rfl⟩ : ∃ bd : Nat, bud = bd := ⟨bud.toNat, by omega⟩
    rw [e]
    exact refReduced_yes w hs hc h hr
  · rw [rdc_no h]
    exact refReduced_no w hs ht hc h
end
end Go.Proofs.YtnfaiaoipeholaaGreatDoor
