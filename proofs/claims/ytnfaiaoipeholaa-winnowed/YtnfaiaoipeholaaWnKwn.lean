/- winnowkeep's conditions. -/
import Derived.Test.YtnfaiaoipeholaaWnKWord
import Derived.Test.YtnfaiaoipeholaaWnPReduceT
namespace Go.Proofs.Ytnfaiaoipeholaa
open Go.RowKit
set_option maxHeartbeats 400000 in
theorem pick4_any (c n : Int) (w : World) (hc : Rng c) (hn : 0 < n ∧ n ≤ 100000) : Calls Try.prog 7 #[.int .i64 c, .int .i64 n] w fun e w' => e = .returned (.int .i64 (pk c n)) ∧ w' = w := by
  obtain ⟨hc1, hc2⟩ := hc
  obtain ⟨hn1, hn2⟩ := hn
  have hne : n ≠ 0 := by omega
  by_cases h : c < 0
  · have h0 : 0 ≤ -(c + 1) := by omega
    have e : pk c n = -((c + 1).tmod n) := by unfold pk; rw [if_pos h, ← Int.neg_tmod, Int.tmod_eq_emod_of_nonneg h0]
    rw [e]
    clear e
    go_enter Try.func7, Try.ntmps7
    go_wp2
    go_ret
    exact ⟨rfl, rfl⟩
  · have e : pk c n = c % n := by unfold pk; rw [if_neg h]
    have h0 : 0 ≤ c := by omega
    rw [e]
    clear e
    go_enter Try.func7, Try.ntmps7
    go_wp2
    go_ret
    exact ⟨rfl, rfl⟩
theorem kb_ne {a b : ByteArray} (h : ¬ a = b) : (a.toList == b.toList) = false := ba_ne h

set_option maxHeartbeats 1000000 in
set_option maxRecDepth 1000000 in
theorem kholds_any (c u : ByteArray) (w : World) (hc : c.size ≤ 300) (hu : u.size ≤ 10000) : Calls Try.prog 16 #[.string c, .string u] w fun e w' => e = .returned (.bool (hld c u)) ∧ w' = w := by
  generalize hR : hld c u = R
  have HR : Hid (hlF c u 0 = R) := hide (by rw [hlF_zero]; exact hR)
  clear hR
  go_enter Try.func16, Try.ntmps16
  go_wp2
  go_loop [5, 6] (fun fv iv => ∃ k fr : Nat, iv = .int .i64 k ∧ fv = .int .i64 fr ∧ k ≤ c.size + 1 ∧ fr ≤ k ∧ (k ≤ c.size ∨ fr = k) ∧ Hid (hlF c u fr = R) ∧ Hid (k ≤ c.size → pe c fr = pe c k)) (fun _ iv => c.size + 1 - (intOf iv).toNat)
  case atStart => exact ⟨0, 0, rfl, rfl, Nat.zero_le _, Nat.le_refl _, .inr rfl, HR, hide (fun _ => rfl)⟩
  case round =>
    obtain ⟨k, fr, rfl, rfl, hk, hfr, hkf, hr, hp⟩ := hrel
    clear HR
    by_cases hlt : k ≤ c.size
    · by_cases hcont : k < c.size ∧ bt c k ≠ 44
      · obtain ⟨hks, h44⟩ := hcont
        have hb := bt_at c k hks
        have h44' : ((c[k].toNat : Int) != 44) = true := by rw [← hb]; simp [h44]
        have HP : Hid (k + 1 ≤ c.size → pe c fr = pe c (k + 1)) := hide (fun _ => by rw [unhide hp hlt, pe_step hks, if_neg h44])
        clear hp hb h44
        go_wp2
        all_goals exact ⟨⟨k + 1, fr, by go_num, rfl, by omega, by omega, .inl (by omega), hr, HP⟩, by simp [intOf]; omega⟩
      · have hpk : pe c k = k := by
          by_cases hks : k < c.size
          · rw [pe_step hks, if_pos (by
              by_cases e : bt c k = 44
              · exact e
              · exact absurd ⟨hks, e⟩ hcont)]
          · exact pe_out (by omega)
        have hpf : pe c fr = k := by rw [unhide hp hlt, hpk]
        have hst := unhide hr
        rw [hlF_step (by omega), hpf, prh_ptx hfr hlt] at hst
        have hpz : (c.extract fr k).size ≤ 300 := by rw [ext_size c hlt]; omega
        generalize hP : c.extract fr k = p at *
        by_cases hks : k < c.size
        · have hbk := bt_at c k hks
          have h44 : bt c k = 44 := by
            by_cases e : bt c k = 44
            · exact e
            · exact absurd ⟨hks, e⟩ hcont
          have h44' : ((c[k].toNat : Int) != 44) = false := by rw [← hbk, h44]; rfl
          clear h44 hbk hcont
          by_cases h33 : bt p (0 : Nat) = 33
          · have hp0 : 0 < p.size := bt_lt (by rw [h33]; decide)
            have hb0 := bt_at p 0 hp0
            have hx : ((p[0].toNat : Int) == 33) = true := by rw [← hb0, h33]; rfl
            have HST : Hid (R = (!(stn u (p.extract 1 p.size)) && hlF c u (k + 1))) := hide (by rw [← hst]; unfold ptx; rw [if_pos h33])
            have hqz : (p.extract 1 p.size).size ≤ 300 := by rw [ext_size p (Nat.le_refl _)]; omega
            clear hst h33 hb0 hr hp hpk hpf
            go_wp2_with fail
            generalize p.extract 1 p.size = pp at *
            go_loop [9, 10] (fun bv jv => ∃ (j : Nat) (b : Bool), jv = .int .i64 j ∧ bv = .bool b ∧ j ≤ u.size + 1 ∧ Hid ((b || snF u pp j) = stn u pp)) (fun _ jv => u.size + 1 - (intOf jv).toNat)
            case atStart => exact ⟨0, false, rfl, rfl, Nat.zero_le _, hide (by rw [snF_zero]; rfl)⟩
            case round =>
              obtain ⟨j, b, rfl, rfl, hj, hs⟩ := hrel
              by_cases hjl : j + pp.size ≤ u.size
              · cases b
                · by_cases he : u.extract j (j + pp.size) = pp
                  · have HS2 : Hid ((true || snF u pp (j + 1)) = stn u pp) := hide (by rw [← unhide hs, snF_step hjl, if_pos he]; rfl)
                    have hq := ba_eq he
                    clear hs he
                    go_wp2
                    exact ⟨⟨j + 1, true, by go_num, rfl, by omega, HS2⟩, by simp [intOf]; omega⟩
                  · have HS2 : Hid ((false || snF u pp (j + 1)) = stn u pp) := hide (by rw [← unhide hs, snF_step hjl, if_neg he])
                    have hq := ba_ne he
                    clear hs he
                    go_wp2
                    exact ⟨⟨j + 1, false, by go_num, rfl, by omega, HS2⟩, by simp [intOf]; omega⟩
                · have HS2 : Hid ((true || snF u pp (j + 1)) = stn u pp) := hide (by rw [← unhide hs]; rfl)
                  clear hs
                  go_wp2
                  exact ⟨⟨j + 1, true, by go_num, rfl, by omega, HS2⟩, by simp [intOf]; omega⟩
              · have hsb : stn u pp = b := by rw [← unhide hs, snF_out (by omega), Bool.or_false]
                have hst := unhide HST
                rw [hsb] at hst
                clear hs hsb
                cases b
                · have HS2 : Hid (hlF c u (k + 1) = R) := hide (by rw [hst]; rfl)
                  clear hst
                  go_wp2
                  exact ⟨⟨k + 1, k + 1, by go_num, by go_num, by omega, Nat.le_refl _, .inr rfl, HS2, hide (fun _ => rfl)⟩, by simp [intOf]; omega⟩
                · have HS2 : Hid (false = R) := hide (by rw [hst]; rfl)
                  clear hst
                  go_wp2
                  go_ret; exact ⟨ret_bool (unhide HS2), rfl⟩
          · have HST : Hid (R = (stn u p && hlF c u (k + 1))) := hide (by rw [← hst]; unfold ptx; rw [if_neg h33])
            by_cases hz0 : p.size = 0
            · clear hst h33 hr hp hpk hpf
              go_wp2_with fail
              clear hz0
              go_loop [9, 10] (fun bv jv => ∃ (j : Nat) (b : Bool), jv = .int .i64 j ∧ bv = .bool b ∧ j ≤ u.size + 1 ∧ Hid ((b || snF u p j) = stn u p)) (fun _ jv => u.size + 1 - (intOf jv).toNat)
              case atStart => exact ⟨0, false, rfl, rfl, Nat.zero_le _, hide (by rw [snF_zero]; rfl)⟩
              case round =>
                obtain ⟨j, b, rfl, rfl, hj, hs⟩ := hrel
                by_cases hjl : j + p.size ≤ u.size
                · cases b
                  · by_cases he : u.extract j (j + p.size) = p
                    · have HS2 : Hid ((true || snF u p (j + 1)) = stn u p) := hide (by rw [← unhide hs, snF_step hjl, if_pos he]; rfl)
                      have hq := ba_eq he
                      clear hs he
                      go_wp2
                      exact ⟨⟨j + 1, true, by go_num, rfl, by omega, HS2⟩, by simp [intOf]; omega⟩
                    · have HS2 : Hid ((false || snF u p (j + 1)) = stn u p) := hide (by rw [← unhide hs, snF_step hjl, if_neg he])
                      have hq := ba_ne he
                      clear hs he
                      go_wp2
                      exact ⟨⟨j + 1, false, by go_num, rfl, by omega, HS2⟩, by simp [intOf]; omega⟩
                  · have HS2 : Hid ((true || snF u p (j + 1)) = stn u p) := hide (by rw [← unhide hs]; rfl)
                    clear hs
                    go_wp2
                    exact ⟨⟨j + 1, true, by go_num, rfl, by omega, HS2⟩, by simp [intOf]; omega⟩
                · have hsb : stn u p = b := by rw [← unhide hs, snF_out (by omega), Bool.or_false]
                  have hst := unhide HST
                  rw [hsb] at hst
                  clear hs hsb
                  cases b
                  · have HS2 : Hid (false = R) := hide (by rw [hst]; rfl)
                    clear hst
                    go_wp2
                    go_ret; exact ⟨ret_bool (unhide HS2), rfl⟩
                  · have HS2 : Hid (hlF c u (k + 1) = R) := hide (by rw [hst]; rfl)
                    clear hst
                    go_wp2
                    exact ⟨⟨k + 1, k + 1, by go_num, by go_num, by omega, Nat.le_refl _, .inr rfl, HS2, hide (fun _ => rfl)⟩, by simp [intOf]; omega⟩
            · have hp0 : 0 < p.size := by omega
              have hb0 := bt_at p 0 hp0
              have hx : ((p[0].toNat : Int) == 33) = false := by rw [← hb0]; simpa using h33
              clear hst h33 hb0 hr hp hpk hpf
              go_wp2_with fail
              go_loop [9, 10] (fun bv jv => ∃ (j : Nat) (b : Bool), jv = .int .i64 j ∧ bv = .bool b ∧ j ≤ u.size + 1 ∧ Hid ((b || snF u p j) = stn u p)) (fun _ jv => u.size + 1 - (intOf jv).toNat)
              case atStart => exact ⟨0, false, rfl, rfl, Nat.zero_le _, hide (by rw [snF_zero]; rfl)⟩
              case round =>
                obtain ⟨j, b, rfl, rfl, hj, hs⟩ := hrel
                by_cases hjl : j + p.size ≤ u.size
                · cases b
                  · by_cases he : u.extract j (j + p.size) = p
                    · have HS2 : Hid ((true || snF u p (j + 1)) = stn u p) := hide (by rw [← unhide hs, snF_step hjl, if_pos he]; rfl)
                      have hq := ba_eq he
                      clear hs he
                      go_wp2
                      exact ⟨⟨j + 1, true, by go_num, rfl, by omega, HS2⟩, by simp [intOf]; omega⟩
                    · have HS2 : Hid ((false || snF u p (j + 1)) = stn u p) := hide (by rw [← unhide hs, snF_step hjl, if_neg he])
                      have hq := ba_ne he
                      clear hs he
                      go_wp2
                      exact ⟨⟨j + 1, false, by go_num, rfl, by omega, HS2⟩, by simp [intOf]; omega⟩
                  · have HS2 : Hid ((true || snF u p (j + 1)) = stn u p) := hide (by rw [← unhide hs]; rfl)
                    clear hs
                    go_wp2
                    exact ⟨⟨j + 1, true, by go_num, rfl, by omega, HS2⟩, by simp [intOf]; omega⟩
                · have hsb : stn u p = b := by rw [← unhide hs, snF_out (by omega), Bool.or_false]
                  have hst := unhide HST
                  rw [hsb] at hst
                  clear hs hsb
                  cases b
                  · have HS2 : Hid (false = R) := hide (by rw [hst]; rfl)
                    clear hst
                    go_wp2
                    go_ret; exact ⟨ret_bool (unhide HS2), rfl⟩
                  · have HS2 : Hid (hlF c u (k + 1) = R) := hide (by rw [hst]; rfl)
                    clear hst
                    go_wp2
                    exact ⟨⟨k + 1, k + 1, by go_num, by go_num, by omega, Nat.le_refl _, .inr rfl, HS2, hide (fun _ => rfl)⟩, by simp [intOf]; omega⟩
        · clear hcont
          by_cases h33 : bt p (0 : Nat) = 33
          · have hp0 : 0 < p.size := bt_lt (by rw [h33]; decide)
            have hb0 := bt_at p 0 hp0
            have hx : ((p[0].toNat : Int) == 33) = true := by rw [← hb0, h33]; rfl
            have HST : Hid (R = (!(stn u (p.extract 1 p.size)) && hlF c u (k + 1))) := hide (by rw [← hst]; unfold ptx; rw [if_pos h33])
            have hqz : (p.extract 1 p.size).size ≤ 300 := by rw [ext_size p (Nat.le_refl _)]; omega
            clear hst h33 hb0 hr hp hpk hpf
            go_wp2_with fail
            generalize p.extract 1 p.size = pp at *
            go_loop [9, 10] (fun bv jv => ∃ (j : Nat) (b : Bool), jv = .int .i64 j ∧ bv = .bool b ∧ j ≤ u.size + 1 ∧ Hid ((b || snF u pp j) = stn u pp)) (fun _ jv => u.size + 1 - (intOf jv).toNat)
            case atStart => exact ⟨0, false, rfl, rfl, Nat.zero_le _, hide (by rw [snF_zero]; rfl)⟩
            case round =>
              obtain ⟨j, b, rfl, rfl, hj, hs⟩ := hrel
              by_cases hjl : j + pp.size ≤ u.size
              · cases b
                · by_cases he : u.extract j (j + pp.size) = pp
                  · have HS2 : Hid ((true || snF u pp (j + 1)) = stn u pp) := hide (by rw [← unhide hs, snF_step hjl, if_pos he]; rfl)
                    have hq := ba_eq he
                    clear hs he
                    go_wp2
                    exact ⟨⟨j + 1, true, by go_num, rfl, by omega, HS2⟩, by simp [intOf]; omega⟩
                  · have HS2 : Hid ((false || snF u pp (j + 1)) = stn u pp) := hide (by rw [← unhide hs, snF_step hjl, if_neg he])
                    have hq := ba_ne he
                    clear hs he
                    go_wp2
                    exact ⟨⟨j + 1, false, by go_num, rfl, by omega, HS2⟩, by simp [intOf]; omega⟩
                · have HS2 : Hid ((true || snF u pp (j + 1)) = stn u pp) := hide (by rw [← unhide hs]; rfl)
                  clear hs
                  go_wp2
                  exact ⟨⟨j + 1, true, by go_num, rfl, by omega, HS2⟩, by simp [intOf]; omega⟩
              · have hsb : stn u pp = b := by rw [← unhide hs, snF_out (by omega), Bool.or_false]
                have hst := unhide HST
                rw [hsb] at hst
                clear hs hsb
                cases b
                · have HS2 : Hid (hlF c u (k + 1) = R) := hide (by rw [hst]; rfl)
                  clear hst
                  go_wp2
                  exact ⟨⟨k + 1, k + 1, by go_num, by go_num, by omega, Nat.le_refl _, .inr rfl, HS2, hide (fun _ => rfl)⟩, by simp [intOf]; omega⟩
                · have HS2 : Hid (false = R) := hide (by rw [hst]; rfl)
                  clear hst
                  go_wp2
                  go_ret; exact ⟨ret_bool (unhide HS2), rfl⟩
          · have HST : Hid (R = (stn u p && hlF c u (k + 1))) := hide (by rw [← hst]; unfold ptx; rw [if_neg h33])
            by_cases hz0 : p.size = 0
            · clear hst h33 hr hp hpk hpf
              go_wp2_with fail
              clear hz0
              go_loop [9, 10] (fun bv jv => ∃ (j : Nat) (b : Bool), jv = .int .i64 j ∧ bv = .bool b ∧ j ≤ u.size + 1 ∧ Hid ((b || snF u p j) = stn u p)) (fun _ jv => u.size + 1 - (intOf jv).toNat)
              case atStart => exact ⟨0, false, rfl, rfl, Nat.zero_le _, hide (by rw [snF_zero]; rfl)⟩
              case round =>
                obtain ⟨j, b, rfl, rfl, hj, hs⟩ := hrel
                by_cases hjl : j + p.size ≤ u.size
                · cases b
                  · by_cases he : u.extract j (j + p.size) = p
                    · have HS2 : Hid ((true || snF u p (j + 1)) = stn u p) := hide (by rw [← unhide hs, snF_step hjl, if_pos he]; rfl)
                      have hq := ba_eq he
                      clear hs he
                      go_wp2
                      exact ⟨⟨j + 1, true, by go_num, rfl, by omega, HS2⟩, by simp [intOf]; omega⟩
                    · have HS2 : Hid ((false || snF u p (j + 1)) = stn u p) := hide (by rw [← unhide hs, snF_step hjl, if_neg he])
                      have hq := ba_ne he
                      clear hs he
                      go_wp2
                      exact ⟨⟨j + 1, false, by go_num, rfl, by omega, HS2⟩, by simp [intOf]; omega⟩
                  · have HS2 : Hid ((true || snF u p (j + 1)) = stn u p) := hide (by rw [← unhide hs]; rfl)
                    clear hs
                    go_wp2
                    exact ⟨⟨j + 1, true, by go_num, rfl, by omega, HS2⟩, by simp [intOf]; omega⟩
                · have hsb : stn u p = b := by rw [← unhide hs, snF_out (by omega), Bool.or_false]
                  have hst := unhide HST
                  rw [hsb] at hst
                  clear hs hsb
                  cases b
                  · have HS2 : Hid (false = R) := hide (by rw [hst]; rfl)
                    clear hst
                    go_wp2
                    go_ret; exact ⟨ret_bool (unhide HS2), rfl⟩
                  · have HS2 : Hid (hlF c u (k + 1) = R) := hide (by rw [hst]; rfl)
                    clear hst
                    go_wp2
                    exact ⟨⟨k + 1, k + 1, by go_num, by go_num, by omega, Nat.le_refl _, .inr rfl, HS2, hide (fun _ => rfl)⟩, by simp [intOf]; omega⟩
            · have hp0 : 0 < p.size := by omega
              have hb0 := bt_at p 0 hp0
              have hx : ((p[0].toNat : Int) == 33) = false := by rw [← hb0]; simpa using h33
              clear hst h33 hb0 hr hp hpk hpf
              go_wp2_with fail
              go_loop [9, 10] (fun bv jv => ∃ (j : Nat) (b : Bool), jv = .int .i64 j ∧ bv = .bool b ∧ j ≤ u.size + 1 ∧ Hid ((b || snF u p j) = stn u p)) (fun _ jv => u.size + 1 - (intOf jv).toNat)
              case atStart => exact ⟨0, false, rfl, rfl, Nat.zero_le _, hide (by rw [snF_zero]; rfl)⟩
              case round =>
                obtain ⟨j, b, rfl, rfl, hj, hs⟩ := hrel
                by_cases hjl : j + p.size ≤ u.size
                · cases b
                  · by_cases he : u.extract j (j + p.size) = p
                    · have HS2 : Hid ((true || snF u p (j + 1)) = stn u p) := hide (by rw [← unhide hs, snF_step hjl, if_pos he]; rfl)
                      have hq := ba_eq he
                      clear hs he
                      go_wp2
                      exact ⟨⟨j + 1, true, by go_num, rfl, by omega, HS2⟩, by simp [intOf]; omega⟩
                    · have HS2 : Hid ((false || snF u p (j + 1)) = stn u p) := hide (by rw [← unhide hs, snF_step hjl, if_neg he])
                      have hq := ba_ne he
                      clear hs he
                      go_wp2
                      exact ⟨⟨j + 1, false, by go_num, rfl, by omega, HS2⟩, by simp [intOf]; omega⟩
                  · have HS2 : Hid ((true || snF u p (j + 1)) = stn u p) := hide (by rw [← unhide hs]; rfl)
                    clear hs
                    go_wp2
                    exact ⟨⟨j + 1, true, by go_num, rfl, by omega, HS2⟩, by simp [intOf]; omega⟩
                · have hsb : stn u p = b := by rw [← unhide hs, snF_out (by omega), Bool.or_false]
                  have hst := unhide HST
                  rw [hsb] at hst
                  clear hs hsb
                  cases b
                  · have HS2 : Hid (false = R) := hide (by rw [hst]; rfl)
                    clear hst
                    go_wp2
                    go_ret; exact ⟨ret_bool (unhide HS2), rfl⟩
                  · have HS2 : Hid (hlF c u (k + 1) = R) := hide (by rw [hst]; rfl)
                    clear hst
                    go_wp2
                    exact ⟨⟨k + 1, k + 1, by go_num, by go_num, by omega, Nat.le_refl _, .inr rfl, HS2, hide (fun _ => rfl)⟩, by simp [intOf]; omega⟩
    · have HS : Hid (true = R) := hide (by rw [← unhide hr, hlF_out (by omega)])
      clear hr hp
      go_wp2
      go_ret; exact ⟨ret_bool (unhide HS), rfl⟩
end Go.Proofs.Ytnfaiaoipeholaa
/- winnowkeep's formed, lines. -/
namespace Go.Proofs.Ytnfaiaoipeholaa
open Go.RowKit
set_option maxHeartbeats 2000000 in
theorem formed_any (c : ByteArray) (w : World) (hc : c.size ≤ maxLen) : Calls Try.prog 15 #[.string c] w fun e w' => e = .returned (.bool (cnd c)) ∧ w' = w := by
  have hc' := hc
  unfold maxLen at hc'
  generalize hR : cnd c = R
  unfold cnd at hR
  have HR : Hid ((cdF c 0 && decide (c.size ≤ 300)) = R) := hide (by rw [← hR, Bool.and_comm]; rfl)
  clear hR
  go_enter Try.func15, Try.ntmps15
  go_wp2
  go_loop [3] (fun iv => ∃ k : Nat, iv = .int .i64 k ∧ k ≤ c.size ∧ Hid ((cdF c k && decide (c.size ≤ 300)) = R)) (fun iv => c.size - (intOf iv).toNat)
  case atStart => exact ⟨0, rfl, Nat.zero_le _, HR⟩
  case round =>
    obtain ⟨k, rfl, hk, hr⟩ := hrel
    clear HR
    by_cases hlt : k < c.size
    · have hst := unhide hr
      rw [cdF_step hlt, Bool.and_assoc] at hst
      have hbt := bt_at c k hlt
      have hbd := (c[k]).toNat_lt
      have hcb : cndB c k = (cL (bt c k) || bt c k == 44 || (bt c k == 33 && (k == 0 || bt c ((k : Int) - 1) == 44))) := rfl
      rw [hbt] at hcb
      generalize hx : ((c[k].toNat : Nat) : Int) = x at *
      clear hbt hr
      by_cases hl1 : x < 97
      · by_cases h44 : x = 44
        · subst h44
          rw [show cndB c k = true by rw [hcb]; simp, Bool.true_and] at hst
          have HS := hide hst
          clear hst hcb
          by_cases h0 : k = 0
          · subst h0
            go_wp2
            all_goals exact ⟨⟨0 + 1, by go_num, by omega, HS⟩, by simp [intOf]; omega⟩
          · obtain ⟨m, rfl⟩ : ∃ m, k = m + 1 := ⟨k - 1, by omega⟩
            go_wp2
            all_goals exact ⟨⟨m + 1 + 1, by go_num, by omega, HS⟩, by simp [intOf]; omega⟩
        · by_cases h33 : x = 33
          · subst h33
            by_cases h0 : k = 0
            · subst h0
              rw [show cndB c 0 = true by rw [hcb]; simp, Bool.true_and] at hst
              have HS := hide hst
              clear hst hcb
              go_wp2
              all_goals exact ⟨⟨0 + 1, by go_num, by omega, HS⟩, by simp [intOf]; omega⟩
            · obtain ⟨m, rfl⟩ : ∃ m, k = m + 1 := ⟨k - 1, by omega⟩
              have hbm := bt_at c m (by omega)
              have hcm : cndB c (m + 1) = (bt c m == 44) := by
                rw [hcb, show cL 33 = false by decide]
                simp
              rw [hcm, hbm] at hst
              have hbd2 := (c[m]).toNat_lt
              cases hy : ((c[m].toNat : Int) == 44)
              · rw [hy, Bool.false_and] at hst
                have HS := hide hst
                clear hst hcb hcm hbm
                go_wp2
                all_goals (go_ret; exact ⟨ret_bool (unhide HS), rfl⟩)
              · rw [hy, Bool.true_and] at hst
                have HS := hide hst
                clear hst hcb hcm hbm
                go_wp2
                all_goals exact ⟨⟨m + 1 + 1, by go_num, by omega, HS⟩, by simp [intOf]; omega⟩
          · have h44' : (x != 44) = true := by simp [h44]
            have h33' : (x != 33) = true := by simp [h33]
            have hlf : cL x = false := by simp [cL]; omega
            rw [show cndB c k = false by rw [hcb, hlf]; simp [h44, h33], Bool.false_and] at hst
            have HS := hide hst
            clear hst hcb h44 h33 hlf
            by_cases h0 : k = 0
            · subst h0
              go_wp2
              all_goals (go_ret; exact ⟨ret_bool (unhide HS), rfl⟩)
            · obtain ⟨m, rfl⟩ : ∃ m, k = m + 1 := ⟨k - 1, by omega⟩
              go_wp2
              all_goals (go_ret; exact ⟨ret_bool (unhide HS), rfl⟩)
      · by_cases hl2 : 122 < x
        · by_cases h44 : x = 44
          · subst h44
            rw [show cndB c k = true by rw [hcb]; simp, Bool.true_and] at hst
            have HS := hide hst
            clear hst hcb
            by_cases h0 : k = 0
            · subst h0
              go_wp2
              all_goals exact ⟨⟨0 + 1, by go_num, by omega, HS⟩, by simp [intOf]; omega⟩
            · obtain ⟨m, rfl⟩ : ∃ m, k = m + 1 := ⟨k - 1, by omega⟩
              go_wp2
              all_goals exact ⟨⟨m + 1 + 1, by go_num, by omega, HS⟩, by simp [intOf]; omega⟩
          · by_cases h33 : x = 33
            · subst h33
              by_cases h0 : k = 0
              · subst h0
                rw [show cndB c 0 = true by rw [hcb]; simp, Bool.true_and] at hst
                have HS := hide hst
                clear hst hcb
                go_wp2
                all_goals exact ⟨⟨0 + 1, by go_num, by omega, HS⟩, by simp [intOf]; omega⟩
              · obtain ⟨m, rfl⟩ : ∃ m, k = m + 1 := ⟨k - 1, by omega⟩
                have hbm := bt_at c m (by omega)
                have hcm : cndB c (m + 1) = (bt c m == 44) := by
                  rw [hcb, show cL 33 = false by decide]
                  simp
                rw [hcm, hbm] at hst
                have hbd2 := (c[m]).toNat_lt
                cases hy : ((c[m].toNat : Int) == 44)
                · rw [hy, Bool.false_and] at hst
                  have HS := hide hst
                  clear hst hcb hcm hbm
                  go_wp2
                  all_goals (go_ret; exact ⟨ret_bool (unhide HS), rfl⟩)
                · rw [hy, Bool.true_and] at hst
                  have HS := hide hst
                  clear hst hcb hcm hbm
                  go_wp2
                  all_goals exact ⟨⟨m + 1 + 1, by go_num, by omega, HS⟩, by simp [intOf]; omega⟩
            · have h44' : (x != 44) = true := by simp [h44]
              have h33' : (x != 33) = true := by simp [h33]
              have hlf : cL x = false := by simp [cL]; omega
              rw [show cndB c k = false by rw [hcb, hlf]; simp [h44, h33], Bool.false_and] at hst
              have HS := hide hst
              clear hst hcb h44 h33 hlf
              by_cases h0 : k = 0
              · subst h0
                go_wp2
                all_goals (go_ret; exact ⟨ret_bool (unhide HS), rfl⟩)
              · obtain ⟨m, rfl⟩ : ∃ m, k = m + 1 := ⟨k - 1, by omega⟩
                go_wp2
                all_goals (go_ret; exact ⟨ret_bool (unhide HS), rfl⟩)
        · have hlt2 : cL x = true := by simp [cL]; omega
          rw [show cndB c k = true by rw [hcb, hlt2]; simp, Bool.true_and] at hst
          have HS := hide hst
          clear hst hcb hlt2
          by_cases h0 : k = 0
          · subst h0
            go_wp2
            all_goals exact ⟨⟨0 + 1, by go_num, by omega, HS⟩, by simp [intOf]; omega⟩
          · obtain ⟨m, rfl⟩ : ∃ m, k = m + 1 := ⟨k - 1, by omega⟩
            go_wp2
            all_goals exact ⟨⟨m + 1 + 1, by go_num, by omega, HS⟩, by simp [intOf]; omega⟩
    · have HS : Hid (decide (c.size ≤ 300) = R) := hide (by rw [← unhide hr, cdF_out (by omega), Bool.true_and])
      clear hr
      go_wp2
      all_goals (go_ret; exact ⟨ret_bool (by rw [← unhide HS]; simp only [decide_eq_decide]; omega), rfl⟩)
end Go.Proofs.Ytnfaiaoipeholaa
/- winnowkeep's lines; rows of texts. -/
namespace Go.Proofs.Ytnfaiaoipeholaa
open Go.RowKit
theorem Try.infoStrK : (Try.prog.info? 9).map (fun i => (i.zero, i.size, i.bytes)) = some (some (.string ⟨#[]⟩), 1, 16) := by kernel_rfl
/-- texts as cells -/
def ktx (L : List ByteArray) : List Value := L.map Value.string
theorem ktx_push (L : List ByteArray) (x : ByteArray) : ktx (L ++ [x]) = ktx L ++ [.string x] := by simp [ktx]
/-- a slice of texts, with a block of its own -/
def KOut (L : List ByteArray) (w : World) (e : Ending) (w' : World) : Prop := ∃ v, e = .returned v ∧ w'.ownsRow w.heap.size 9 1 v L.length (ktx L) ∧ Below w.heap.size w w'
/-- the pieces of a text -/
def kpc (s : ByteArray) (l : List (Nat × Nat)) : List ByteArray := l.map fun p => s.extract p.1 p.2
theorem krow {w : World} {B : Nat} {v : Value} {L : List ByteArray} (h : w.ownsRow B 9 1 v L.length (ktx L)) : ∃ ao cap, v = .slice ao L.length cap ∧ ∀ k (hk : k < L.length), ∃ g, ao = some ⟨g, 0, none⟩ ∧ L.length ≤ cap ∧ w.cell? ⟨g, k, none⟩ = some (.string L[k]) := by
  rcases h.2 with ⟨e, h0⟩ | ⟨g, cap, cur, e, _, _, hc, _⟩
  · exact ⟨none, 0, by rw [e, h0], fun k hk => by omega⟩
  · refine ⟨some ⟨g, 0, none⟩, cap, e, fun k hk => ⟨g, rfl, hc, ?_⟩⟩
    subst e
    rw [h.cellAt k (by omega)]
    unfold ktx
    rw [List.getElem?_map, List.getElem?_eq_getElem hk]; rfl
theorem kowns {w w' : World} {base n : Nat} {v : Value} {xs : List Value} (h : w.ownsRow base 9 1 v n xs) (hb : Below w.heap.size w w') : w'.ownsRow base 9 1 v n xs :=
  h.kept (row := none) ⟨hb.os, hb.tape, hb.output, hb.size, fun k hk _ => hb.block k hk⟩ (by
    cases hv : v.ownBlock with
    | none => exact .inl rfl
    | some k => exact .inr (fun e => by cases e))
set_option maxHeartbeats 1000000 in
set_option maxRecDepth 1000000 in
theorem lines_any (s : ByteArray) (w : World) (hs : s.size ≤ 10000000) : Calls Try.prog 17 #[.string s] w fun e w' => KOut (kpc s (cut s 10)) w e w' := by
  obtain ⟨i1, hi1, hy0, hy1, hy2⟩ := info_parts Try.infoStrK
  generalize hR : cut s 10 = R
  have HR := hide hR
  clear hR
  go_enter Try.func17, Try.ntmps17
  go_wp2
  go_loopw [3, 4, 5] (fun ov fv iv wr => ∃ (k fr : Nat) (D : List (Nat × Nat)) (ov' : Value), iv = .int .i64 k ∧ fv = .int .i64 fr ∧ ov = ov' ∧ k ≤ s.size ∧ fr ≤ k ∧ D.length ≤ k ∧ wr.ownsRow w.heap.size 9 1 ov' D.length (ktx (kpc s D)) ∧ Below w.heap.size w wr ∧ Hid (R = D ++ cutF s 10 (s.size - k) k fr)) (fun _ _ iv _ => s.size - (intOf iv).toNat)
  case atStart => exact ⟨0, 0, [], _, rfl, rfl, rfl, Nat.zero_le _, Nat.le_refl _, Nat.le_refl _, World.ownsRow_nil w w.heap.size 9 1, Below.refl _ _, hide (by rw [← unhide HR]; rfl)⟩
  case round =>
    obtain ⟨k, fr, D, ov, rfl, rfl, hov, hk, hfr, hDl, hown, hbel, hr⟩ := hrel
    replace hov := hov.symm
    subst hov
    have HO := hide hown
    have HB := hide hbel
    by_cases hlt : k < s.size
    · have hbt := bt_at s k hlt
      have hst := unhide hr
      rw [show s.size - k = s.size - (k + 1) + 1 by omega] at hst
      unfold cutF at hst
      by_cases hc : bt s k = 10
      · rw [if_pos hc] at hst
        have hc' : ((s[k].toNat : Int) == 10) = true := by rw [← hbt]; simp [hc]
        have HS : Hid (R = (D ++ [(fr, k)]) ++ cutF s 10 (s.size - (k + 1)) (k + 1) (k + 1)) := hide (by rw [hst]; simp)
        clear hst hr hbt hc hbel
        go_wp2_with (first | (at_builtin; refine wpList_append_lies _ rfl _ _ 39 rfl w.heap.size 9 i1 (.string ⟨#[]⟩) 1 16 Try.underlying39 hi1 hy0 hy1 hy2 rfl (by decide) _ _ _ rfl (hown.alloc _) ⟨_, 0, none⟩ 1 1 [.string (s.extract fr k)] rfl rfl ?c1 ?c2 ?c3 ?c4 ?c5 ?c6 _ rfl ?_))
        case c1 => exact World.news_of_block (heap_alloc_new _ _)
        case c2 => intro u hu; simp at hu; subst hu; rfl
        case c3 => omega
        case c4 => unfold maxLen; omega
        case c5 => omega
        case c6 => have := (unhide HB).size; simp; omega
        · intro g1 cap1 w3 hown3 hg3 hb3 hlt3
          have HO3 : Hid (w3.ownsRow w.heap.size 9 1 (.slice (some ⟨g1, 0, none⟩) (D.length + 1) cap1) (D ++ [(fr, k)]).length (ktx (kpc s (D ++ [(fr, k)])))) := hide (by
            rw [show kpc s (D ++ [(fr, k)]) = kpc s D ++ [s.extract fr k] by simp [kpc], ktx_push, List.length_append]; exact hown3)
          have HB3 := hide (((unhide HB).alloc (unhide HB).size _).grown hg3 (by have := (unhide HB).size; simp; omega) (fun j hj => (hown.lt j hj).1))
          clear hown3 hg3 hb3 hlt3 hown HO HB
          go_wp2
          go_roundw
          case rel => exact ⟨k + 1, k + 1, D ++ [(fr, k)], _, by go_num, by go_num, rfl, by omega, by omega, by simp; omega, unhide HO3, unhide HB3, HS⟩
          case measure => simp [intOf]; omega
      · rw [if_neg hc] at hst
        have hc' : ((s[k].toNat : Int) == 10) = false := by rw [← hbt]; simp [hc]
        have HS := hide hst
        clear hst hr hbt hc hbel hown
        go_wp2
        go_roundw
        case rel => exact ⟨k + 1, fr, D, _, by go_num, rfl, rfl, by omega, by omega, by omega, unhide HO, unhide HB, HS⟩
        case measure => simp [intOf]; omega
    · have e : k = s.size := by omega
      subst e
      have HS : Hid (R = D ++ [(fr, s.size)]) := hide (by rw [unhide hr, Nat.sub_self]; rfl)
      clear hr hbel
      go_wp2_with (first | (at_builtin; refine wpList_append_lies _ rfl _ _ 39 rfl w.heap.size 9 i1 (.string ⟨#[]⟩) 1 16 Try.underlying39 hi1 hy0 hy1 hy2 rfl (by decide) _ _ _ rfl (hown.alloc _) ⟨_, 0, none⟩ 1 1 [.string (s.extract fr s.size)] rfl rfl ?c1 ?c2 ?c3 ?c4 ?c5 ?c6 _ rfl ?_))
      case c1 => exact World.news_of_block (heap_alloc_new _ _)
      case c2 => intro u hu; simp at hu; subst hu; rfl
      case c3 => omega
      case c4 => unfold maxLen; omega
      case c5 => omega
      case c6 => have := (unhide HB).size; simp; omega
      · intro g1 cap1 w3 hown3 hg3 hb3 hlt3
        have HO3 : Hid (w3.ownsRow w.heap.size 9 1 (.slice (some ⟨g1, 0, none⟩) (D.length + 1) cap1) (kpc s R).length (ktx (kpc s R))) := hide (by
          rw [unhide HS, show kpc s (D ++ [(fr, s.size)]) = kpc s D ++ [s.extract fr s.size] by simp [kpc], ktx_push, List.length_append, show (kpc s D).length = D.length by simp [kpc]]; exact hown3)
        have HB3 := hide (((unhide HB).alloc (unhide HB).size _).grown hg3 (by have := (unhide HB).size; simp; omega) (fun j hj => (hown.lt j hj).1))
        clear hown3 hg3 hb3 hlt3 hown HO HB
        go_wp2
        go_ret
        exact ⟨_, rfl, unhide HO3, unhide HB3⟩
end Go.Proofs.Ytnfaiaoipeholaa
