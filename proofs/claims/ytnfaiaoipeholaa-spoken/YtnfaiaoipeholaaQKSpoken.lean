/- The law Spoken, walked. -/
import Derived.Test.YtnfaiaoipeholaaQKWord
import Derived.Test.YtnfaiaoipeholaaQPsr
import Derived.Test.YtnfaiaoipeholaaQPar
namespace Go.Proofs.Ytnfaiaoipeholaa
open Go.RowKit
set_option maxHeartbeats 1000000 in
set_option maxRecDepth 1000000 in
theorem spoken_any (s : ByteArray) (ao : Option Addr) (len cap : Nat) (c1 c2 : Int) (w : World) (hs : s.size ≤ maxLen) (hN : Nums w ao len) (hc1 : Rng c1) (hc2 : Rng c2) :
    Calls Try.prog 4 #[.string s, .slice ao len cap, .int .i64 c1, .int .i64 c2] w fun e w' => e = .returned (.bool true) ∧ Below w.heap.size w w' := by
  obtain ⟨ch0⟩ := chr_some
  have : Inhabited Chr := ⟨ch0⟩
  have hp1 := pk_bd (c := c1) (n := 9) (by omega)
  have hp2 := pk_bd (c := c2) (n := 5) (by omega)
  obtain ⟨a, ha⟩ : ∃ a : Nat, pk c1 9 = a := ⟨(pk c1 9).toNat, by omega⟩
  obtain ⟨b, hb⟩ : ∃ b : Nat, pk c2 5 = b := ⟨(pk c2 5).toNat, by omega⟩
  have ha8 : a ≤ 8 := by omega
  have hb4 : b ≤ 4 := by omega
  have HN := hide hN
  have HA := hide ha
  have HB := hide hb
  have HC1 := hide hc1
  have HC2 := hide hc2
  clear hN ha hb hc1 hc2 hp1 hp2
  go_enter Try.func4, Try.ntmps4
  go_wp2_with fail
  refine (works_any _).mono ?_
  rintro e w1 ⟨rfl, hb1⟩
  go_wp2_with fail
  refine (pick_any _ _ _ (unhide HC1) (by omega)).mono ?_
  rw [unhide HA]
  rintro e w' ⟨rfl, hw⟩
  replace hw := hw.symm
  subst hw
  go_wp2_with fail
  refine (pick_any _ _ _ (unhide HC2) (by omega)).mono ?_
  rw [unhide HB]
  rintro e w' ⟨rfl, hw⟩
  replace hw := hw.symm
  subst hw
  have HN1 : Hid (Nums w1 ao len) := hide ((unhide HN).under hb1)
  go_wp2_with fail
  refine (made_int _ _ _ _ _ _ _ hs (unhide HN1) ha8 hb4).mono ?_
  intro e w2 ho
  obtain ⟨hb2, ⟨T, n, C, D, hR, rfl⟩ | rfl⟩ := outK_int ha8 hb4 ho
  · clear ho
    have tz := hR.tz
    have hT0 : (hgt s T).2 = 0 := by rw [hR.hh]
    have hwz : (wd T).size ≤ maxLen := Nat.le_trans (wd_size T) tz
    have KT := hide hT0
    clear hR hT0
    go_wp2_with fail
    refine (word_any T _ tz).mono ?_
    rintro e w' ⟨rfl, hw⟩
    replace hw := hw.symm
    subst hw
    go_wp2_with fail
    refine (parse_any _ hs hwz).mono ?_
    rintro e w3 ⟨rfl, hb3, hf3⟩
    by_cases hz : (wd T).size ≤ 20
    · have q1 := prs_has hf3 hz (unhide KT)
      rcases prs_said hf3 with ⟨q2, _⟩ | ⟨_, q3, q4, y1, _, q5⟩
      · exact absurd q1 q2
      obtain ⟨P, hP⟩ : ∃ P, prs s (wd T) = (P, 0) := ⟨_, by rw [← q1]⟩
      rw [hP] at q3 q4 q5
      simp only at q3 q4 q5
      have hpz : P.size ≤ maxLen := by unfold maxLen; omega
      have hvz : (wd T ++ (⟨#[122, 122]⟩ : ByteArray)).size ≤ maxLen := by
        rw [ByteArray.size_append]
        have : (⟨#[122, 122]⟩ : ByteArray).size = 2 := rfl
        unfold maxLen; omega
      have KP := hide hP
      have KH := hide q5
      have KW := hide q4
      rw [hP]
      clear q1 q3 q4 q5 hP hf3 KT
      generalize wd T = V at *
      have hz2 : (⟨#[122, 122]⟩ : ByteArray).size = 2 := rfl
      go_wp2_with fail
      refine (height_any _ hs hpz).mono ?_
      rw [unhide KH]
      rintro e w4 ⟨rfl, hb4'⟩
      go_wp2_with fail
      refine (parse_any _ hs hvz).mono ?_
      rintro e w5 ⟨rfl, hb5, hf5⟩
      rcases prs_said hf5 with ⟨g1, g2⟩ | ⟨g1, g2, g3, y2, g4, g5⟩
      · generalize hX : prs s (V ++ (⟨#[122, 122]⟩ : ByteArray)) = XX at *
        obtain ⟨X, G⟩ := XX
        simp only at g1 g2
        subst g2
        have g1' : (G != 0) = true := by simp [g1]
        have g1'' : (G == 0) = false := by simp [g1]
        clear hX hf5
        simp only
        go_wp2_with fail
        refine (height_any _ hs (by decide)).mono ?_
        generalize hgt s ⟨#[]⟩ = H0
        obtain ⟨y0, h0⟩ := H0
        rintro e w6 ⟨rfl, hb6⟩
        go_wp2_with fail
        refine (parse_any _ hs hwz).mono ?_
        rintro e w7 ⟨rfl, hb7, _⟩
        rw [unhide KP]
        go_wp2_with (first
          | (go_at_call 12; refine (word_any P _ hpz).mono ?_; rw [unhide KW]; rintro e w' ⟨rfl, hw⟩; replace hw := hw.symm; subst hw))
        go_ret
        exact ⟨rfl, bnext (bnext (bnext (bnext (bnext (bnext hb1 hb2) hb3) hb4') hb5) hb6) hb7⟩
      · generalize hX : prs s (V ++ (⟨#[122, 122]⟩ : ByteArray)) = XX at *
        obtain ⟨X, G⟩ := XX
        simp only at g1 g2 g3 g5
        subst g1
        have hxz : X.size ≤ maxLen := by unfold maxLen; omega
        have KX := hide g3
        have KY := hide g5
        clear hX hf5 g3 g5 g2
        simp only
        go_wp2_with fail
        refine (height_any _ hs hxz).mono ?_
        rw [unhide KY]
        rintro e w6 ⟨rfl, hb6⟩
        go_wp2_with fail
        refine (parse_any _ hs hwz).mono ?_
        rintro e w7 ⟨rfl, hb7, _⟩
        rw [unhide KP]
        go_wp2_with fail
        refine (word_any X _ hxz).mono ?_
        rw [unhide KX]
        rintro e w' ⟨rfl, hw⟩
        replace hw := hw.symm
        subst hw
        go_wp2_with (first
          | (go_at_call 12; refine (word_any P _ hpz).mono ?_; rw [unhide KW]; rintro e w' ⟨rfl, hw⟩; replace hw := hw.symm; subst hw))
        go_ret
        exact ⟨rfl, bnext (bnext (bnext (bnext (bnext (bnext hb1 hb2) hb3) hb4') hb5) hb6) hb7⟩
    · have q1 := prs_long (unhide KT) hz
      rw [q1]
      clear q1 hf3 KT
      generalize wd T = V at *
      go_wp2
      go_ret
      exact ⟨rfl, bnext (bnext hb1 hb2) hb3⟩
  · clear ho
    go_wp2
    go_ret
    exact ⟨rfl, bnext hb1 hb2⟩
end Go.Proofs.Ytnfaiaoipeholaa
