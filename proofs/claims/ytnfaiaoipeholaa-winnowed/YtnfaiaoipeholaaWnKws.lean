/- winnowkeep's shrinks. -/
import Derived.Test.YtnfaiaoipeholaaWnKwn
namespace Go.Proofs.Ytnfaiaoipeholaa
open Go.RowKit
theorem keepXY {W w' : World} {g j k : Nat} {x y : Value} (h : Below W.heap.size W w') (e0 : W.cell? ⟨g, j, none⟩ = some x) (e1 : W.cell? ⟨g, k, none⟩ = some y) :
    w'.cell? ⟨g, j, none⟩ = some x ∧ w'.cell? ⟨g, k, none⟩ = some y :=
  ⟨(h.cell (p := ⟨g, j, none⟩) (World.block_lt_of_cell? W _ e0)).trans e0, (h.cell (p := ⟨g, k, none⟩) (World.block_lt_of_cell? W _ e1)).trans e1⟩
/-- what is said of the trees of a way -/
structure Shr (s c : ByteArray) (L : List ByteArray) : Prop where
  each : ∀ k (hk : k < L.length), (∃ n : Nat, hgt s L[k] = ((n : Int), 0)) ∧ hld c (wd L[k]) = true ∧ L[k].size ≤ 2000
  pair : ∀ k (hk : k + 1 < L.length) (n n' : Nat), hgt s L[k] = ((n : Int), 0) → hgt s L[k + 1] = ((n' : Int), 0) → n' ≤ n ∧ L[k + 1].size < L[k].size ∧ (wd L[k + 1]).size ≤ (wd L[k]).size
set_option maxHeartbeats 8000000 in
set_option maxRecDepth 1000000 in
theorem shrinks_any {w : World} {B : Nat} {v : Value} {L : List ByteArray} (s c : ByteArray) (hs : s.size ≤ maxLen) (hc : c.size ≤ 300) (h : w.ownsRow B 9 1 v L.length (ktx L)) (hL : L.length ≤ 10000000) (hS : Shr s c L) : Calls Try.prog 18 #[.string s, .string c, v] w fun e w' => e = .returned (.bool true) ∧ Below w.heap.size w w' := by
  have HO := hide h
  obtain ⟨ao, cap, rfl, hq⟩ := krow h
  have HS := hide hS
  clear h hq hS
  go_enter Try.func18, Try.ntmps18
  go_wp2
  go_loopw [7] (fun iv wr => ∃ k : Nat, iv = .int .i64 k ∧ k ≤ L.length ∧ Hid (wr.ownsRow B 9 1 (.slice ao L.length cap) L.length (ktx L)) ∧ Hid (Below w.heap.size w wr)) (fun iv _ => L.length - (intOf iv).toNat)
  case atStart => exact ⟨0, rfl, Nat.zero_le _, HO, hide (Below.refl _ _)⟩
  case round =>
    obtain ⟨k, rfl, hk, hO, hB⟩ := hrel
    clear HO
    by_cases hlt : k < L.length
    · obtain ⟨ao', cap', e1, hcs⟩ := krow (unhide hO)
      cases e1
      obtain ⟨g, rfl, hcap, c0⟩ := hcs k hlt
      obtain ⟨⟨n', hn'⟩, hh', hz'⟩ := (unhide HS).each k hlt
      have hwz := wd_size L[k]
      have hxm : L[k].size ≤ maxLen := by unfold maxLen; omega
      have HN' := hide hn'
      have HH' := hide hh'
      by_cases h0 : k = 0
      · subst h0
        generalize L[0] = y at *
        clear hcs hn' hh'
        go_wp2_with fail
        refine (height_any _ hs hxm).mono ?_
        rw [unhide HN']
        rintro e w1 ⟨rfl, hb1⟩
        have c1 := (hb1.cell (p := ⟨g, 0, none⟩) (World.block_lt_of_cell? wr _ c0)).trans c0
        have HO1 := hide (kowns (unhide hO) hb1)
        have HB1 := hide ((unhide hB).trans (hb1.mono (unhide hB).size))
        clear hb1 c0 hO hB
        go_wp2_with (first
          | (go_at_call 12; refine (word_any _ _ hxm).mono ?_; rintro e w' ⟨rfl, hw⟩; replace hw := hw.symm; subst hw)
          | (go_at_call 16; refine (kholds_any c _ _ hc (by omega)).mono ?_; rw [unhide HH']; rintro e w' ⟨rfl, hw⟩; replace hw := hw.symm; subst hw))
        all_goals go_roundw
        case rel => exact ⟨0 + 1, by go_num, by omega, HO1, HB1⟩
        case measure => simp [intOf]; omega
      · obtain ⟨m, rfl⟩ : ∃ m, k = m + 1 := ⟨k - 1, by omega⟩
        obtain ⟨g', hg', _, d0⟩ := hcs m (by omega)
        cases hg'
        obtain ⟨⟨n, hn⟩, _, hz⟩ := (unhide HS).each m (by omega)
        obtain ⟨p1, p2, p3⟩ := (unhide HS).pair m hlt n n' hn hn'
        have hwz0 := wd_size L[m]
        have hxm0 : L[m].size ≤ maxLen := by unfold maxLen; omega
        have HN := hide hn
        generalize L[m] = x at *
        generalize L[m + 1] = y at *
        clear hcs hn hn' hh'
        go_wp2_with fail
        refine (height_any _ hs hxm).mono ?_
        rw [unhide HN']
        rintro e w1 ⟨rfl, hb1⟩
        have c1 := (hb1.cell (p := ⟨g, m + 1, none⟩) (World.block_lt_of_cell? wr _ c0)).trans c0
        have d1 := (hb1.cell (p := ⟨g, m, none⟩) (World.block_lt_of_cell? wr _ d0)).trans d0
        have HO1 := hide (kowns (unhide hO) hb1)
        have HB1 := hide ((unhide hB).trans (hb1.mono (unhide hB).size))
        clear hb1 c0 d0 hO hB
        go_wp2_with (first
          | (go_at_call 12; refine (word_any _ _ hxm).mono ?_; rintro e w' ⟨rfl, hw⟩; replace hw := hw.symm; subst hw)
          | (go_at_call 16; refine (kholds_any c _ _ hc (by omega)).mono ?_; rw [unhide HH']; rintro e w' ⟨rfl, hw⟩; replace hw := hw.symm; subst hw)
          | fail)
        refine (height_any _ hs hxm0).mono ?_
        rw [unhide HN]
        rintro e w2 ⟨rfl, hb2⟩
        have c2 := (hb2.cell (p := ⟨g, m + 1, none⟩) (World.block_lt_of_cell? w1 _ c1)).trans c1
        have d2 := (hb2.cell (p := ⟨g, m, none⟩) (World.block_lt_of_cell? w1 _ d1)).trans d1
        have HO2 := hide (kowns (unhide HO1) hb2)
        have HB2 := hide ((unhide HB1).trans (hb2.mono (unhide HB1).size))
        clear hb2 c1 d1 HO1 HB1
        have z1 : decide (n < n') = false := by simp; omega
        have z2 : decide ((n : Int) < (n' : Int)) = false := by simp; omega
        have z3 : decide (x.size ≤ y.size) = false := by simp; omega
        have z4 : decide ((x.size : Int) ≤ (y.size : Int)) = false := by simp; omega
        have z5 : decide ((wd x).size < (wd y).size) = false := by simp; omega
        have z6 : decide (((wd x).size : Int) < ((wd y).size : Int)) = false := by simp; omega
        have q1 : IntKind.i64.wrap ((m : Int)) = (m : Int) := by rw [IntKind.wrap_i64]; omega
        have q2 : m < L.length := by omega
        have q3 : (m : Int) < (L.length : Int) := by omega
        have q4 : 0 ≤ (m : Int) + 1 ∧ (m : Int) + 1 < (L.length : Int) := by omega
        have q5 : m + 1 < L.length := hlt
        have q6 : (m : Int) + 1 < (L.length : Int) := by omega
        go_wp2_with fail
        go_region_held (fun w' => w'.cell? ⟨g, m, none⟩ = some (.string x) ∧ w'.cell? ⟨g, m + 1, none⟩ = some (.string y)) (exact keepXY ((Below.refl _ _).drew) d2 c2) (first | (go_at_call 12; refine (word_any _ _ ?_).mono ?_; (first | with_reducible exact hxm | with_reducible exact hxm0); rintro e w' ⟨rfl, hw⟩; replace hw := hw.symm; subst hw))
        go_wp2
        go_roundw
        case rel => exact ⟨m + 1 + 1, by go_num, by omega, hide (unhide HO2).drew, hide (unhide HB2).drew⟩
        case measure => simp [intOf]; omega
    · go_wp2
      go_ret; exact ⟨rfl, unhide hB⟩
end Go.Proofs.Ytnfaiaoipeholaa
/- winnowkeep's tight. -/
namespace Go.Proofs.Ytnfaiaoipeholaa
open Go.RowKit
theorem sqK_out {t : ByteArray} {j : Nat} {d : Int} (h : t.size ≤ j) : sqK t j d = j := by
  unfold sqK; rw [show t.size - j = 0 by omega]; rfl
theorem sqF_bd (t : ByteArray) : ∀ n j d, j ≤ sqF t n j d ∧ sqF t n j d ≤ j + n
  | 0, j, d => by simp [sqF]
  | n + 1, j, d => by
    have := sqF_bd t n (j + 1) (sqd (bt t j) d)
    unfold sqF
    split <;> omega
theorem sq_bd {t : ByteArray} {i : Nat} (h : i < t.size) : i + 1 ≤ sq t i ∧ sq t i ≤ t.size := by
  have := sqF_bd t (t.size - (i + 1)) (i + 1) 1
  unfold sq sqK; omega
set_option maxHeartbeats 8000000 in
set_option maxRecDepth 1000000 in
theorem tight_any (t c : ByteArray) (w : World) (ht : t.size ≤ 2000) (hc : c.size ≤ 300) (hN : ∀ i, i < t.size → bt t i = 91 → bt t (i + 1 : Nat) ≠ 93 → hld c (wd (t.extract 0 i) ++ wd (t.extract (sq t i) t.size)) = false) :
    Calls Try.prog 19 #[.string t, .string c] w fun e w' => e = .returned (.bool true) ∧ Below w.heap.size w w' := by
  have HN := hide hN
  clear hN
  go_enter Try.func19, Try.ntmps19
  go_wp2
  go_loopw [5] (fun iv wr => ∃ i : Nat, iv = .int .i64 i ∧ i ≤ t.size ∧ Hid (Below w.heap.size w wr)) (fun iv _ => t.size + 1 - (intOf iv).toNat)
  case atStart => exact ⟨0, rfl, Nat.zero_le _, hide (Below.refl _ _)⟩
  case round =>
    obtain ⟨i, rfl, hi, hB⟩ := hrel
    by_cases hlt : i + 1 < t.size
    · have hb := bt_at t i (by omega)
      have hb1 := bt_at t (i + 1) hlt
      have hbd := (t[i]).toNat_lt
      have hbd1 := (t[i + 1]).toNat_lt
      by_cases h91 : bt t i = 91
      · by_cases h93 : bt t (i + 1 : Nat) = 93
        · have e1 : ((t[i].toNat : Int) != 91) = false := by rw [← hb, h91]; rfl
          have e2 : ((t[i + 1].toNat : Int) == 93) = true := by rw [← hb1, h93]; rfl
          clear hb hb1 h91 h93
          go_wp2
          go_roundw
          case rel => exact ⟨i + 1, by go_num, by omega, hB⟩
          case measure => simp [intOf]; omega
        · have e1 : ((t[i].toNat : Int) != 91) = false := by rw [← hb, h91]; rfl
          have e3 : (t[i].toNat : Int) = 91 := by rw [← hb]; exact h91
          have e2 : ((t[i + 1].toNat : Int) == 93) = false := by rw [← hb1]; simp only [beq_eq_false_iff_ne, ne_eq]; exact h93
          have hno := unhide HN i (by omega) h91 h93
          have hsb := sq_bd (t := t) (i := i) (by omega)
          obtain ⟨hsb1, hsb2⟩ := hsb
          have HS0 : Hid (sqK t (i + 1) 1 = sq t i) := hide rfl
          have hw1 := wd_size (t.extract 0 i)
          have hw2 := wd_size (t.extract (sq t i) t.size)
          have hx1 : (t.extract 0 i).size = i := by rw [ext_size t (by omega)]; omega
          have hx2 : (t.extract (sq t i) t.size).size = t.size - sq t i := ext_size t (Nat.le_refl _)
          have HNO := hide hno
          clear hb hb1 h91 h93 hno
          generalize hS : sq t i = S at *
          go_wp2_with fail
          go_loop [6, 7] (fun ov ev => ∃ (e : Nat) (d : Int), ev = .int .i64 e ∧ ov = .int .i64 d ∧ -(e : Int) ≤ d ∧ d ≤ e ∧ ((e = i ∧ d = 0) ∨ (i < e ∧ e ≤ t.size ∧ Hid (sqK t e d = S)))) (fun _ ev => t.size - (intOf ev).toNat)
          case atStart => exact ⟨i, 0, rfl, rfl, by omega, by omega, .inl ⟨rfl, rfl⟩⟩
          case round =>
            obtain ⟨e, d, rfl, rfl, hd1, hd2, hor⟩ := hrel
            rcases hor with ⟨rfl, rfl⟩ | ⟨he1, he2, hq⟩
            · go_wp2
              all_goals exact ⟨⟨e + 1, 1, by go_num, by go_num, by omega, by omega, .inr ⟨by omega, by omega, HS0⟩⟩, by simp [intOf]; omega⟩
            · by_cases hel : e < t.size ∧ 0 < d
              · obtain ⟨hel1, hel2⟩ := hel
                have hbe := bt_at t e hel1
                have hst := unhide hq
                rw [sqK_step hel1 hel2, hbe] at hst
                have hbde := (t[e]).toNat_lt
                have hne : ((e : Int) == (i : Int)) = false := by simp; omega
                unfold sqd at hst
                generalize hz : ((t[e].toNat : Nat) : Int) = z at *
                by_cases z1 : z = 91
                · rw [if_pos z1] at hst
                  have HQ := hide hst
                  subst z1
                  clear hst hq hbe
                  go_wp2
                  all_goals exact ⟨⟨e + 1, d + 1, by go_num, by go_num, by omega, by omega, .inr ⟨by omega, by omega, HQ⟩⟩, by simp [intOf]; omega⟩
                · rw [if_neg z1] at hst
                  by_cases z2 : z = 93
                  · rw [if_pos z2] at hst
                    have HQ := hide hst
                    subst z2
                    clear hst hq hbe
                    go_wp2
                    all_goals exact ⟨⟨e + 1, d - 1, by go_num, by go_num, by omega, by omega, .inr ⟨by omega, by omega, HQ⟩⟩, by simp [intOf]; omega⟩
                  · rw [if_neg z2] at hst
                    have HQ := hide hst
                    have z1' : (z == 91) = false := by simp [z1]
                    have z2' : (z == 93) = false := by simp [z2]
                    clear hst hq hbe z1 z2
                    go_wp2
                    all_goals exact ⟨⟨e + 1, d, by go_num, rfl, by omega, by omega, .inr ⟨by omega, by omega, HQ⟩⟩, by simp [intOf]; omega⟩
              · have hes : e = S := by
                  rw [← unhide hq]
                  by_cases h0 : 0 < d
                  · rw [sqK_out (by
                      by_cases q : e < t.size
                      · exact absurd ⟨q, h0⟩ hel
                      · omega)]
                  · rw [sqK_zero h0]
                have hne : ((e : Int) == (i : Int)) = false := by simp; omega
                have HCC : Hid ((wd (t.extract 0 i) ++ wd (t.extract S t.size)).size ≤ 10000) := hide (by rw [ByteArray.size_append]; omega)
                have f1 : i ≤ t.size := by omega
                have f2 : e ≤ t.size := he2
                have f3 : ¬ 9223372036854775807 < (wd (t.extract 0 i)).size + (wd (t.extract S t.size)).size := by omega
                have hor2 : ¬ e < t.size ∨ (e < t.size ∧ d ≤ 0) := by omega
                have HXX : Hid (∀ a b, (t.extract a b).size ≤ maxLen) := hide (fun a b => by rw [ByteArray.size_extract]; unfold maxLen; omega)
                subst hes
                clear hq hel hx1 hx2 hw1 hw2 hS HS0 e1 e2 e3
                rcases hor2 with hg | ⟨hg1, hg2⟩
                · go_wp2_with fail
                  go_region_with (first
                    | (go_at_call 12; refine (word_any (t.extract _ _) _ (unhide HXX _ _)).mono ?_; rintro e w' ⟨rfl, hw⟩; replace hw := hw.symm; subst hw)
                    | (go_at_call 16; refine (kholds_any c _ _ hc (unhide HCC)).mono ?_; rw [unhide HNO]; rintro e w' ⟨rfl, hw⟩; replace hw := hw.symm; subst hw))
                  go_wp2
                  go_roundw
                  case rel => exact ⟨i + 1, by go_num, by omega, hide (unhide hB).drew⟩
                  case measure => simp [intOf]; omega
                · go_wp2_with fail
                  go_region_with (first
                    | (go_at_call 12; refine (word_any (t.extract _ _) _ (unhide HXX _ _)).mono ?_; rintro e w' ⟨rfl, hw⟩; replace hw := hw.symm; subst hw)
                    | (go_at_call 16; refine (kholds_any c _ _ hc (unhide HCC)).mono ?_; rw [unhide HNO]; rintro e w' ⟨rfl, hw⟩; replace hw := hw.symm; subst hw))
                  go_wp2
                  go_roundw
                  case rel => exact ⟨i + 1, by go_num, by omega, hide (unhide hB).drew⟩
                  case measure => simp [intOf]; omega
      · have e1 : ((t[i].toNat : Int) != 91) = true := by rw [← hb]; simp [h91]
        clear hb hb1 h91
        go_wp2
        go_roundw
        case rel => exact ⟨i + 1, by go_num, by omega, hB⟩
        case measure => simp [intOf]; omega
    · go_wp2
      go_ret; exact ⟨rfl, unhide hB⟩
end Go.Proofs.Ytnfaiaoipeholaa
/- The law Winnowed, walked. -/
namespace Go.Proofs.Ytnfaiaoipeholaa
open Go.RowKit
section
variable {s t c : ByteArray} {b : Nat} {f : TF} {r : List ByteArray} {a y : Nat}
theorem tree_hgt (hk : (chk s).1 = 0) (h : TreeOf s t f)  : hgt s t = (((f.ht : Nat) : Int), 0) := whole_hgt hk (h.whole (start_f (gram_of hk)))
theorem Rdc.shr (h : Rdc s t c b f r a y) : Shr s c (t :: r) := by
  refine ⟨fun k hk => ?_, fun k hk n n' h1 h2 => ?_⟩
  · have hm : (t :: r)[k] ∈ t :: r := List.getElem_mem hk
    obtain ⟨f', hf'⟩ := way_tree h.gram r t f h.tree h.way _ hm
    exact ⟨⟨f'.ht, tree_hgt h.gram hf'⟩, way_hold r t h.hold h.way _ hm, hf'.le⟩
  · have hk2 : k < r.length := by simp at hk; omega
    obtain ⟨v, hv, hu, _⟩ := way_at r t h.way k r[k] (List.getElem?_eq_getElem hk2)
    have ev : (t :: r)[k] = v := by
      rw [List.getElem?_eq_getElem (by omega)] at hv
      exact Option.some.inj hv
    have eu : (t :: r)[k + 1] = r[k] := by simp
    rw [ev] at h1 ⊢
    rw [eu] at h2 ⊢
    obtain ⟨f', hf'⟩ := way_tree h.gram r t f h.tree h.way v (List.mem_of_getElem? hv)
    obtain ⟨st, _⟩ := stp_of h.gram hf' hu
    obtain ⟨n2, e2, le2⟩ := st.ht n h1
    rw [e2] at h2
    have := congrArg Prod.fst h2
    simp only at this
    exact ⟨by omega, st.sz, st.wl⟩
end
set_option maxHeartbeats 4000000 in
set_option maxRecDepth 1000000 in
theorem winnowed_any (s : ByteArray) (ao : Option Addr) (len cap : Nat) (c : ByteArray) (b0 : Int) (w : World) (hs : s.size ≤ maxLen) (hc : c.size ≤ maxLen) (hN : Nums w ao len) (hb0 : Rng b0) :
    Calls Try.prog 5 #[.string s, .slice ao len cap, .string c, .int .i64 b0] w fun e w' => e = .returned (.bool true) ∧ Below w.heap.size w w' := by
  have hp := pk_bd (c := b0) (n := 10000) (by omega)
  obtain ⟨bd, hbd⟩ : ∃ bd : Nat, pk b0 10000 = bd := ⟨(pk b0 10000).toNat, by omega⟩
  have hbd9 : bd ≤ 9999 := by omega
  have HN := hide hN
  have HBD := hide hbd
  have HC0 := hide hb0
  clear hN hbd hp hb0
  go_enter Try.func5, Try.ntmps5
  go_wp2_with fail
  refine (works_any _).mono ?_
  rintro e w1 ⟨rfl, hb1⟩
  have HM : Hid (Calls Try.prog 8 #[.string s, .slice ao len cap, .int .i64 9, .int .i64 3] w1 fun e w' => OutK s (1 + 8) (1 + 2) w1 e w') := hide (made_any s ao len cap 9 3 w1 hs ((unhide HN).under hb1) (by omega) (by omega))
  go_wp2_with fail
  refine (unhide HM).mono ?_
  intro e w2 ho
  obtain ⟨hb2, ⟨T, n, C, D, hR, rfl⟩ | rfl⟩ := outK_int (a := 8) (b := 2) (by omega) (by omega) ho
  · have HB2 := hide (bnext hb1 hb2)
    have hn9 : n ≤ 9 := by have := hR.n2; omega
    have hh := hR.hh
    have tz := hR.tz
    obtain ⟨hk, f, n0, hf, hn0⟩ := hgt_tree (s := s) (t := T) (by rw [hh])
    have hz := hf.le
    have hwz := wd_size T
    clear ho hb1 hb2 hR HM hn0 HN
    go_wp2_with fail
    refine (pick4_any _ _ _ (unhide HC0) (by omega)).mono ?_
    rw [unhide HBD]
    rintro e w' ⟨rfl, hw⟩
    replace hw := hw.symm
    subst hw
    have HRA := hide (fun w => reduce_any (s := s) (t := T) (c := c) w hs tz hc bd)
    unfold OutRd at HRA
    have HHH := hide hh
    have HHK := hide hk
    have HFF := hide hf
    clear hh hk hf HBD HC0
    cases h2 : cnd c
    · have hrf : rfs s T c bd = 14 := by unfold rfs; rw [unhide HHH, if_neg (by simp), if_pos h2]
      rw [rdc_no (by rw [hrf]; decide), hrf] at HRA
      have H2 := hide h2
      clear h2 hrf
      go_wp2_with fail
      refine (unhide HRA _).mono ?_
      rintro e w3 ⟨rfl, hb3⟩
      have HB3 := hide (bnext (unhide HB2) hb3)
      clear hb3 HB2 HRA
      go_wp2_with (first | (go_at_call 15; refine (formed_any _ _ hc).mono ?_; rw [unhide H2]; rintro e w' ⟨rfl, hw⟩; replace hw := hw.symm; subst hw))
      all_goals (go_ret; exact ⟨ret_bool (by simp), unhide HB3⟩)
    · have hc3 : c.size ≤ 300 := by
        have h3 := h2
        unfold cnd at h3
        simp only [Bool.and_eq_true, decide_eq_true_eq] at h3
        exact h3.1
      have H2 := hide h2
      cases h4 : hld c (wd T)
      · have hrf : rfs s T c bd = 15 := by unfold rfs; rw [unhide HHH, if_neg (by simp), if_neg (by simp [h2]), if_neg (by omega), if_pos h4]
        rw [rdc_no (by rw [hrf]; decide), hrf] at HRA
        have H4 := hide h4
        clear h2 h4 hrf
        go_wp2_with fail
        refine (unhide HRA _).mono ?_
        rintro e w3 ⟨rfl, hb3⟩
        have HB3 := hide (bnext (unhide HB2) hb3)
        clear hb3 HB2 HRA
        go_wp2_with (first
          | (go_at_call 15; refine (formed_any _ _ hc).mono ?_; rw [unhide H2]; rintro e w' ⟨rfl, hw⟩; replace hw := hw.symm; subst hw)
          | (go_at_call 12; refine (word_any _ _ tz).mono ?_; rintro e w' ⟨rfl, hw⟩; replace hw := hw.symm; subst hw)
          | (go_at_call 16; refine (kholds_any c _ _ hc3 (by omega)).mono ?_; rw [unhide H4]; rintro e w' ⟨rfl, hw⟩; replace hw := hw.symm; subst hw))
        all_goals (go_ret; exact ⟨ret_bool (by simp), unhide HB3⟩)
      · have hrf : rfs s T c bd = 0 := by unfold rfs; rw [unhide HHH, if_neg (by simp), if_neg (by simp [h2]), if_neg (by omega), if_neg (by simp [h4])]
        obtain ⟨f', r, a, y, hre, hrd⟩ := rdc_ok hrf
        rw [hre] at HRA
        rw [show (bd : Int).toNat = bd by omega] at hrd
        have H4 := hide h4
        have HRD := hide hrd
        have hrl : r.length ≤ 2000 := by
          have := (way_trees hrd.gram r T f' hrd.tree hrd.way).2.2.1
          omega
        have hwb : (strOfNums (wayL (T :: r))).size ≤ 10000000 := by
          rw [strOfNums_size]
          have h1 := wayL_len (T :: r) 2000 (fun u hu => by obtain ⟨f', hf'⟩ := way_tree hrd.gram r T f' hrd.tree hrd.way u hu; exact hf'.le)
          have h2 : (T :: r).length * (2000 + 1) ≤ 2001 * 2001 := Nat.mul_le_mul (by simp; omega) (Nat.le_refl _)
          omega
        obtain ⟨hcut1, hcut2⟩ := way_cut hrd.gram hrd.tree hrd.way
        have hpc : kpc (strOfNums (wayL (T :: r))) (cut (strOfNums (wayL (T :: r))) 10) = T :: r := by unfold kpc; rw [hcut1]; exact hcut2
        have HPC := hide hpc
        have hab := hrd.ask
        have HSH := hide hrd.shr
        clear h2 h4 hrf hre hrd hcut1 hcut2 hpc
        generalize strOfNums (wayL (T :: r)) = way at *
        go_wp2_with fail
        refine (unhide HRA _).mono ?_
        rintro e w3 ⟨rfl, hb3⟩
        have HB3 := hide (bnext (unhide HB2) hb3)
        clear hb3 HB2 HRA
        simp only
        go_wp2_with (first
          | (go_at_call 15; refine (formed_any _ _ hc).mono ?_; rw [unhide H2]; rintro e w' ⟨rfl, hw⟩; replace hw := hw.symm; subst hw)
          | (go_at_call 12; refine (word_any _ _ tz).mono ?_; rintro e w' ⟨rfl, hw⟩; replace hw := hw.symm; subst hw)
          | (go_at_call 16; refine (kholds_any c _ _ hc3 (by omega)).mono ?_; rw [unhide H4]; rintro e w' ⟨rfl, hw⟩; replace hw := hw.symm; subst hw)
          | fail)
        refine (lines_any way _ hwb).mono ?_
        rw [unhide HPC]
        rintro e w4 ⟨lv, rfl, hown4, hb4⟩
        have HB4 := hide (bnext (unhide HB3) hb4)
        have HO4 := hide hown4
        obtain ⟨ao4, cap4, rfl, hcs4⟩ := krow hown4
        obtain ⟨g, rfl, hcap4, c0⟩ := hcs4 0 (by simp)
        obtain ⟨g', hg', _, cl⟩ := hcs4 r.length (by simp)
        cases hg'
        have hll : (T :: r).length = r.length + 1 := by simp
        have hlast : (T :: r)[r.length]'(by simp) = lastT T r := by
          have := lastT_at r T
          rw [List.getElem?_eq_getElem (by simp)] at this
          exact Option.some.inj this
        rw [hlast] at cl
        simp only [List.getElem_cons_zero] at c0
        rw [hll] at hcap4 HO4 ⊢
        clear hown4 hb4 hcs4 HB3 HPC hlast
        go_wp2_with fail
        refine (shrinks_any s c hs hc3 (L := T :: r) (by rw [hll]; exact unhide HO4) (by rw [hll]; omega) (unhide HSH)).mono ?_
        rintro e w5 ⟨rfl, hb5⟩
        have HB5 := hide (bnext (unhide HB4) hb5)
        have c5 := (hb5.cell (p := ⟨g, 0, none⟩) (World.block_lt_of_cell? w4 _ c0)).trans c0
        have l5 := (hb5.cell (p := ⟨g, r.length, none⟩) (World.block_lt_of_cell? w4 _ cl)).trans cl
        clear hb5 HB4 c0 cl HO4 HSH
        have hrd := unhide HRD
        obtain ⟨⟨fl, hfl⟩, _, _, hlh⟩ := way_trees hrd.gram r T f' hrd.tree hrd.way
        obtain ⟨nl, hnl, hnl9⟩ := hlh n (unhide HHH)
        have hlz := hfl.le
        have hlm : (lastT T r).size ≤ maxLen := by unfold maxLen; omega
        have hlhold := way_hold r T hrd.hold hrd.way _ (last_mem r T)
        have hq0 := ba_eq (rfl : T = T)
        rcases hrd.why with ⟨rfl, hd⟩ | ⟨rfl, rfl, _⟩
        · obtain ⟨a9, ha9⟩ := rdc_done hrd.gram hfl hnl (by omega) hrd.cnd hlhold hd
          have HR9 := hide (fun w => reduce_any (s := s) (t := lastT T r) (c := c) w hs hlm hc 9999)
          unfold OutRd at HR9
          rw [ha9] at HR9
          have HT9 := hide (fun w => tight_any (lastT T r) c w hlz hc3 (fun i hi h91 h93 => tight_ok hfl hd hi h91 h93))
          generalize lastT T r = lt at *
          have hq9 := ba_eq (rfl : lt = lt)
          clear hrd HRD hlh hfl hnl hnl9 hlhold hd ha9 HHH HHK HFF H2 H4
          simp only at HR9
          go_wp2_with fail
          refine (unhide HR9 _).mono ?_
          rintro e w6 ⟨rfl, hb6⟩
          have HB6 := hide (bnext (unhide HB5) hb6)
          clear hb6 HB5 c5 l5 HR9
          go_wp2_with fail
          refine (unhide HT9 _).mono ?_
          rintro e w7 ⟨rfl, hb7⟩
          have HB7 := hide (bnext (unhide HB6) hb7)
          clear hb7 HB6 HT9
          go_wp2
          all_goals (go_ret; exact ⟨rfl, unhide HB7⟩)
        · clear hrd HRD hlh hfl hnl hnl9 hlhold HHH HHK HFF H2 H4
          generalize lastT T r = lt at *
          go_wp2
          all_goals (go_ret; exact ⟨rfl, unhide HB5⟩)
  · have HB2 := hide (bnext hb1 hb2)
    clear ho hb1 hb2
    go_wp2
    go_ret
    exact ⟨rfl, unhide HB2⟩
end Go.Proofs.Ytnfaiaoipeholaa
