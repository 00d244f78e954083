/- The law Swapped, walked. -/
import Derived.Test.YtnfaiaoipeholaaGreatVKSwap
import Derived.Test.YtnfaiaoipeholaaGreatVSwE
import Derived.Test.YtnfaiaoipeholaaGreatVPsr
namespace Go.Proofs.YtnfaiaoipeholaaGreat
open Go.RowKit
theorem made_cho (s : ByteArray) (ao : Option Addr) (len cap a b : Nat) (V : Nat → Int) (w : World) (hs : s.size ≤ maxLen) (hN : NumV w ao len V) (ha : a ≤ 8) (hb : b ≤ 4) :
    Calls Tryz.prog 14 #[.string s, .slice ao len cap, .int .i64 (1 + (a : Int)), .int .i64 (1 + (b : Int))] w fun e w' => OutC s (cho V len) (1 + a) (1 + b) w e w' := by
  have h := made_at s ao len cap (1 + a) (1 + b) V w hs hN (by omega) (by omega)
  rw [show ((1 + a : Nat) : Int) = 1 + (a : Int) by omega, show ((1 + b : Nat) : Int) = 1 + (b : Int) by omega] at h
  exact h
/-- what is said of two trees with two names for one another -/
structure TwoK (a b : Int) (s s' T U : ByteArray) (h m : Int) (n : Nat) (C : ByteArray) : Prop where
  tz : T.size ≤ maxLen
  uz : U.size ≤ maxLen
  h1 : hgt s T = ((n : Int), 0)
  h2 : hgt s' U = ((n : Int), 0)
  r1 : rcl s T h m = (C, 0)
  r2 : rcl s' U h m = (C, 0)
  sw : swS a b T = U
theorem two_of {a b : Int} {s s' c : ByteArray} (hS : Sw a b s s') {h m : Nat} (hh : 1 ≤ h ∧ h ≤ 9) (hm : 1 ≤ m ∧ m ≤ 5) (e : (mk s c h m).2 = 0) :
    ∃ n C, TwoK a b s s' (mk s c h m).1 (mk s' c h m).1 h m n C := by
  obtain ⟨n, C, D, q⟩ := rcd hh hm e
  have hT := (mk_sw hS c h m).2 e
  refine ⟨n, C, q.tz, by rw [hT.sz]; exact q.tz, q.hh, by rw [hS.hgt_ hT]; exact q.hh, q.r1, by rw [hS.rcl_ hT]; exact q.r1, sw_unique (swS_sw hS.nn _) hT⟩

set_option maxHeartbeats 1000000 in
set_option maxRecDepth 1000000 in
theorem swappedLaw_any (s : ByteArray) (o1 o2 : Int) (ao : Option Addr) (len cap : Nat) (c1 c2 : Int) (w : World) (hs : s.size ≤ maxLen) (hN : Nums w ao len) (ho1 : Rng o1) (ho2 : Rng o2) (hc1 : Rng c1) (hc2 : Rng c2) :
    Calls Tryz.prog 9 #[.string s, .int .i64 o1, .int .i64 o2, .slice ao len cap, .int .i64 c1, .int .i64 c2] w fun e w' => e = .returned (.bool true) ∧ Below w.heap.size w w' := by
  obtain ⟨ch0⟩ := chr_some
  have : Inhabited Chr := ⟨ch0⟩
  obtain ⟨V, hV⟩ := hN.val
  have hp1 := pk_bd (c := c1) (n := 9) (by omega)
  have hp2 := pk_bd (c := c2) (n := 5) (by omega)
  have hp3 := pk_bd (c := o1) (n := 26) (by omega)
  have hp4 := pk_bd (c := o2) (n := 26) (by omega)
  obtain ⟨a, ha⟩ : ∃ a : Nat, pk c1 9 = a := ⟨(pk c1 9).toNat, by omega⟩
  obtain ⟨b, hb⟩ : ∃ b : Nat, pk c2 5 = b := ⟨(pk c2 5).toNat, by omega⟩
  have ha8 : a ≤ 8 := by omega
  have hb4 : b ≤ 4 := by omega
  generalize hx : pk o1 26 = x at *
  generalize hy : pk o2 26 = y at *
  obtain ⟨hx0, hx1⟩ := hp3
  obtain ⟨hy0, hy1⟩ := hp4
  have hwx1 : IntKind.i64.wrap (65 + x) = 65 + x := by simp [IntKind.wrap, IntKind.signed, IntKind.bits]; omega
  have hwx2 : IntKind.u8.wrap (65 + x) = 65 + x := by simp [IntKind.wrap, IntKind.signed, IntKind.bits]; omega
  have hwy1 : IntKind.i64.wrap (65 + y) = 65 + y := by simp [IntKind.wrap, IntKind.signed, IntKind.bits]; omega
  have hwy2 : IntKind.u8.wrap (65 + y) = 65 + y := by simp [IntKind.wrap, IntKind.signed, IntKind.bits]; omega
  have hnn : NN (65 + x) (65 + y) := ⟨by omega, by omega⟩
  have HNN := hide hnn
  have hS := swS_sw hnn s
  have hos : (swS (65 + x) (65 + y) s).size ≤ maxLen := by rw [swS_size]; exact hs
  have hmk := mk_sw hS (cho V len) (1 + (a : Int)) (1 + (b : Int))
  have htw : (mk s (cho V len) (1 + (a : Int)) (1 + (b : Int))).2 = 0 → ∃ n C, TwoK (65 + x) (65 + y) s (swS (65 + x) (65 + y) s) (mk s (cho V len) (1 + (a : Int)) (1 + (b : Int))).1 (mk (swS (65 + x) (65 + y) s) (cho V len) (1 + (a : Int)) (1 + (b : Int))).1 (1 + (a : Int)) (1 + (b : Int)) n C := by
    rw [show 1 + (a : Int) = ((1 + a : Nat) : Int) by omega, show 1 + (b : Int) = ((1 + b : Nat) : Int) by omega]
    exact two_of hS (by omega) (by omega)
  have HCK := hide hS.chk_
  have HPR := hide (fun (u : ByteArray) h1 h2 => prs_sw (u := u) hS (fun t => ⟨_, swS_sw hnn t⟩) h1 h2)
  have HMK := hide hmk
  have HTW := hide htw
  have HX := hide hx
  have HY := hide hy
  have HA := hide ha
  have HB := hide hb
  have HC1 := hide hc1
  have HC2 := hide hc2
  have HO1 := hide ho1
  have HO2 := hide ho2
  have HV := hide hV
  generalize hO : swS (65 + x) (65 + y) s = other at *
  have HO := hide hO
  clear hN hV hp1 hp2 ha hb hx hy hS hmk htw hnn hc1 hc2 ho1 ho2 hO
  go_enter Tryz.func9, Tryz.ntmps9
  go_wp2_with fail
  refine (works_any _).mono ?_
  rintro e w1 ⟨rfl, hb1⟩
  go_wp2_with fail
  refine (pick_any _ _ _ (unhide HO1) (by omega)).mono ?_
  rw [unhide HX]
  rintro e w' ⟨rfl, hw⟩
  replace hw := hw.symm
  subst hw
  go_wp2_with fail
  refine (pick_any _ _ _ (unhide HO2) (by omega)).mono ?_
  rw [unhide HY]
  rintro e w' ⟨rfl, hw⟩
  replace hw := hw.symm
  subst hw
  go_wp2_with fail
  refine (swapped_any _ _ _ _ hs (unhide HNN)).mono ?_
  rw [unhide HO]
  rintro e w2 ⟨rfl, hb2⟩
  go_wp2_with fail
  refine (check_any _ _ hs).mono ?_
  rintro e w3 ⟨rfl, hb3⟩
  go_wp2_with fail
  refine (check_any _ _ hos).mono ?_
  rw [unhide HCK]
  rintro e w4 ⟨rfl, hb4'⟩
  go_wp2_with fail
  refine (pick_any _ _ _ (unhide HC1) (by omega)).mono ?_
  rw [unhide HA]
  rintro e w' ⟨rfl, hw⟩
  replace hw := hw.symm
  subst hw
  go_wp2_with fail
  refine (pick_any _ _ _ (unhide HC2) (by omega)).mono ?_
  rw [unhide HB]
  rintro e w' ⟨rfl, hw⟩
  replace hw := hw.symm
  subst hw
  have hbA := bnext (bnext (bnext hb1 hb2) hb3) hb4'
  have HV1 := hide ((unhide HV).below hbA)
  clear hb1 hb2 hb3 hb4'
  go_wp2_with fail
  refine (made_cho _ _ _ _ _ _ _ _ hs (unhide HV1) ha8 hb4).mono ?_
  intro e w5 ho1
  have hb5 := ho1.1
  have HV2 := hide ((unhide HV1).below hb5)
  have hq1 := ho1.2
  rw [show ((1 + a : Nat) : Int) = 1 + (a : Int) by omega, show ((1 + b : Nat) : Int) = 1 + (b : Int) by omega] at hq1
  clear ho1
  have hq2 : ∀ e, ((mk other (cho V len) (1 + (a : Int)) (1 + (b : Int))).2 = 0 ∧ e = Ending.returned (.tuple #[.string (mk other (cho V len) (1 + (a : Int)) (1 + (b : Int))).1, .bool true, .bool true]) ∨ (mk other (cho V len) (1 + (a : Int)) (1 + (b : Int))).2 ≠ 0 ∧ e = Ending.returned (.tuple #[.string ⟨#[]⟩, .bool false, .bool true])) → ((mk s (cho V len) (1 + (a : Int)) (1 + (b : Int))).2 = 0 → e = Ending.returned (.tuple #[.string (mk other (cho V len) (1 + (a : Int)) (1 + (b : Int))).1, .bool true, .bool true])) ∧ ((mk s (cho V len) (1 + (a : Int)) (1 + (b : Int))).2 ≠ 0 → e = Ending.returned (.tuple #[.string ⟨#[]⟩, .bool false, .bool true])) := by
    rw [(unhide HMK).1]
    rintro e (⟨q1, q2⟩ | ⟨q1, q2⟩)
    · exact ⟨fun _ => q2, fun h => absurd q1 h⟩
    · exact ⟨fun h => absurd h q1, fun _ => q2⟩
  have HQ2 := hide hq2
  clear hq2
  rcases hq1 with ⟨hz, rfl⟩ | ⟨hz, rfl⟩
  · obtain ⟨n, C, hT⟩ := unhide HTW hz
    have HZ := hide hz
    have HT := hide hT
    clear hz HTW HMK hT
    go_wp2_with fail
    refine (made_cho _ _ _ _ _ _ _ _ hos (unhide HV2) ha8 hb4).mono ?_
    intro e w6 ho2
    have hb6 := ho2.1
    have hq1 := ho2.2
    rw [show ((1 + a : Nat) : Int) = 1 + (a : Int) by omega, show ((1 + b : Nat) : Int) = 1 + (b : Int) by omega] at hq1
    have he := (unhide HQ2 e hq1).1 (unhide HZ)
    clear ho2 hq1 HQ2 HZ
    subst he
    generalize (mk s (cho V len) (1 + (a : Int)) (1 + (b : Int))).1 = T at *
    generalize (mk other (cho V len) (1 + (a : Int)) (1 + (b : Int))).1 = U at *
    obtain ⟨tz, uz, h1, h2, r1, r2, hsw⟩ := unhide HT
    have H1 := hide h1
    have H2 := hide h2
    have R1 := hide r1
    have R2 := hide r2
    have HSW := hide hsw
    clear HT h1 h2 r1 r2 hsw
    go_wp2_with fail
    refine (height_any _ hs tz).mono ?_
    rw [unhide H1]
    rintro e w7 ⟨rfl, hb7⟩
    go_wp2_with fail
    refine (height_any _ hos uz).mono ?_
    rw [unhide H2]
    rintro e w8 ⟨rfl, hb8⟩
    go_wp2_with fail
    refine (recall_any _ _ _ hs tz).mono ?_
    rw [unhide R1]
    rintro e w9 ⟨rfl, hb9⟩
    go_wp2_with fail
    refine (recall_any _ _ _ hos uz).mono ?_
    rw [unhide R2]
    rintro e w10 ⟨rfl, hb10⟩
    have hbB := bnext (bnext (bnext (bnext (bnext (bnext hbA hb5) hb6) hb7) hb8) hb9) hb10
    clear hbA hb5 hb6 hb7 hb8 hb9 hb10 H1 H2 R1 R2
    go_wp2_with fail
    refine (swapped_any _ _ _ _ tz (unhide HNN)).mono ?_
    rw [unhide HSW]
    rintro e w11 ⟨rfl, hb11⟩
    have hbC := bnext hbB hb11
    clear hbB hb11 hwx1 hwx2 hwy1 hwy2
    have hwz : (wd T).size ≤ maxLen := Nat.le_trans (wd_size T) tz
    go_wp2_with fail
    refine (word_any _ _ tz).mono ?_
    rintro e w' ⟨rfl, hw⟩
    replace hw := hw.symm
    subst hw
    generalize wd T = W0 at *
    go_wp2_with fail
    go_loop [37] (fun v => ∃ W : ByteArray, v = .string W ∧ W.size ≤ maxLen) (fun v => match v with | .string W => W.size | _ => 0)
    case atStart => exact ⟨W0, rfl, hwz⟩
    case round =>
      obtain ⟨W, rfl, hW⟩ := hrel
      have hW' := hW
      unfold maxLen at hW'
      by_cases hlt : 3 < W.size
      · go_wp2
        exact ⟨⟨_, rfl, by rw [ByteArray.size_extract]; omega⟩, by show (W.extract 1 W.size).size < W.size; rw [ByteArray.size_extract]; omega⟩
      · go_wp2_with fail
        refine (parse_any _ hs hW).mono ?_
        rintro e w12 ⟨rfl, hb12, hf12⟩
        have HF12 := hide hf12
        clear hf12
        go_wp2_with fail
        refine (parse_any _ hos hW).mono ?_
        rintro e w13 ⟨rfl, hb13, hf13⟩
        have hpr := unhide HPR W (unhide HF12) hf13
        rw [hpr]
        clear hpr hf13
        go_wp2
        go_ret
        exact ⟨rfl, bnext (bnext hbC hb12) hb13⟩
  · have HZ := hide hz
    clear hz HTW HMK
    go_wp2_with fail
    refine (made_cho _ _ _ _ _ _ _ _ hos (unhide HV2) ha8 hb4).mono ?_
    intro e w6 ho2
    have hb6 := ho2.1
    have hq1 := ho2.2
    rw [show ((1 + a : Nat) : Int) = 1 + (a : Int) by omega, show ((1 + b : Nat) : Int) = 1 + (b : Int) by omega] at hq1
    have he := (unhide HQ2 e hq1).2 (unhide HZ)
    clear ho2 hq1 HQ2 HZ
    subst he
    go_wp2
    go_ret
    exact ⟨rfl, bnext (bnext hbA hb5) hb6⟩
end Go.Proofs.YtnfaiaoipeholaaGreat
