/- The law Recalled, walked. -/
import Derived.Test.YtnfaiaoipeholaaKWorks
namespace Go.Proofs.Ytnfaiaoipeholaa
open Go.RowKit
theorem Nums.below {w w' : World} {ao : Option Addr} {len : Nat} (h : Nums w ao len) (g : Below w.heap.size w w') : Nums w' ao len :=
  ⟨h.hl, fun i hi => by
    obtain ⟨b, o, v, e, hb, hc, hv⟩ := h.at_ i hi
    exact ⟨b, o, v, e, Nat.lt_of_lt_of_le hb g.size, (g.cell (p := ⟨b, o + i, none⟩) hb).trans hc, hv⟩⟩
set_option maxHeartbeats 1000000 in
set_option maxRecDepth 1000000 in
theorem recalled_any (s : ByteArray) (ao : Option Addr) (len cap : Nat) (c1 c2 : Int) (w : World) (hs : s.size ≤ maxLen) (hN : Nums w ao len) (hc1 : Rng c1) (hc2 : Rng c2) :
    Calls Try.prog 3 #[.string s, .slice ao len cap, .int .i64 c1, .int .i64 c2] w fun e w' => e = .returned (.bool true) ∧ Below w.heap.size w w' := by
  have hp1 := pk_bd (c := c1) (n := 9) (by omega)
  have hp2 := pk_bd (c := c2) (n := 5) (by omega)
  obtain ⟨a, ha⟩ : ∃ a : Nat, pk c1 9 = a := ⟨(pk c1 9).toNat, by omega⟩
  obtain ⟨b, hb⟩ : ∃ b : Nat, pk c2 5 = b := ⟨(pk c2 5).toNat, by omega⟩
  have ha8 : a ≤ 8 := by omega
  have hb4 : b ≤ 4 := by omega
  have HN := hide hN
  have HA := hide ha
  have HB := hide hb
  have HC1 := hide hc1
  have HC2 := hide hc2
  clear hN ha hb hc1 hc2 hp1 hp2
  go_enter Try.func3, Try.ntmps3
  go_wp2_with fail
  refine (works_any _).mono ?_
  rintro e w1 ⟨rfl, hb1⟩
  go_wp2_with fail
  refine (pick_any _ _ _ (unhide HC1) (by omega)).mono ?_
  rw [unhide HA]
  rintro e w' ⟨rfl, hw⟩
  replace hw := hw.symm
  subst hw
  go_wp2_with fail
  refine (pick_any _ _ _ (unhide HC2) (by omega)).mono ?_
  rw [unhide HB]
  rintro e w' ⟨rfl, hw⟩
  replace hw := hw.symm
  subst hw
  have HN1 : Hid (Nums w1 ao len) := hide ((unhide HN).below hb1)
  go_wp2_with fail
  refine (made_int _ _ _ _ _ _ _ hs (unhide HN1) ha8 hb4).mono ?_
  intro e w2 ho
  obtain ⟨hb2, ⟨T, n, C, D, hR, rfl⟩ | rfl⟩ := outK_int ha8 hb4 ho
  · clear ho
    obtain ⟨tz, cz, dz, hh, n1, n2, r1, m1, r2, m2⟩ := hR
    have KH := hide hh
    have KR1 := hide r1
    have KM1 := hide m1
    have KR2 := hide r2
    have KM2 := hide m2
    clear hh r1 m1 r2 m2
    go_wp2_with fail
    refine (height_any _ hs tz).mono ?_
    rw [unhide KH]
    rintro e w3 ⟨rfl, hb3⟩
    go_wp2_with fail
    refine (recall_any _ _ _ hs tz).mono ?_
    rw [unhide KR1]
    rintro e w4 ⟨rfl, hb4'⟩
    go_wp2_with fail
    refine (make_any _ _ _ hs cz).mono ?_
    rw [unhide KM1]
    rintro e w5 ⟨rfl, hb5⟩
    go_wp2_with fail
    refine (recall_any _ _ _ hs tz).mono ?_
    rw [unhide KR2]
    rintro e w6 ⟨rfl, hb6⟩
    go_wp2_with fail
    refine (make_any _ _ _ hs dz).mono ?_
    rw [unhide KM2]
    rintro e w7 ⟨rfl, hb7⟩
    go_wp2_with fail
    refine (recall_any _ _ _ hs tz).mono ?_
    rw [unhide KR1]
    rintro e w8 ⟨rfl, hb8⟩
    go_wp2_with fail
    go_ret
    exact ⟨rfl, bnext (bnext (bnext (bnext (bnext (bnext (bnext hb1 hb2) hb3) hb4') hb5) hb6) hb7) hb8⟩
  · clear ho
    go_wp2
    go_ret
    exact ⟨rfl, bnext hb1 hb2⟩
end Go.Proofs.Ytnfaiaoipeholaa
