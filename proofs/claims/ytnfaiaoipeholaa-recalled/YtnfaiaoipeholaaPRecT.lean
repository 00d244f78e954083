/- The program's Recall. -/
import Derived.Test.YtnfaiaoipeholaaPRec3
import Derived.Test.YtnfaiaoipeholaaPMakeT
namespace Go.Proofs.Ytnfaiaoipeholaa
open Go.RowKit
theorem Try.infoRec : (Try.prog.info? 55).map (·.size) = some 31 := by kernel_rfl
theorem Try.builtRec (s c : ByteArray) (m : Int) (P : Nat → Int) : Try.prog.built 55 [(0, .agg (gds s m P).toArray), (1, .string c)] = some (mks s c m P).toArray := by kernel_rfl
theorem conv_any {w : World} {b : Nat} {s c : ByteArray} {m : Int} {P : Nat → Int} {a : Nat} {T : List Int} (hk : Mk w b s c m P a T) :
    ∃ ao cap, w.cell? ⟨b, 30, none⟩ = some (.slice ao T.length cap) ∧ (convert 45 9 (.slice ao T.length cap)).run Try.prog w = .ok (.string (strOfNums T)) w := by
  obtain ⟨v, h1, h2⟩ := hk.tre
  rcases h2.2 with ⟨e, h0⟩ | ⟨g, cap, cur, e, _⟩
  · subst e
    have hT : T = [] := List.length_eq_zero_iff.1 h0
    subst hT
    refine ⟨none, 0, h1, ?_⟩
    have := run_convert_bytes_nil (P := Try.prog) (w := w) 45 5 Try.underlying45 Try.underlying5 0 0 9 Try.underlying9
    exact this
  · subst e
    refine ⟨some ⟨g, 0, none⟩, cap, h1, run_convert_bytes_arg _ 45 5 Try.underlying45 Try.underlying5 g 0 T.length cap T rfl (fun i hi => ?_) _ Try.underlying9⟩
    rw [Nat.zero_add, h2.cellAt i (by omega)]
    unfold byts
    rw [List.getElem?_map, List.getElem?_eq_getElem hi, List.getD_eq_getElem?_getD, List.getElem?_eq_getElem hi]; rfl
theorem whole_parts {s t : ByteArray} {hh : Nat} (e : whole s t 0 = some hh) : t.size ≤ 2000 ∧ pF s t 0 (pE s t 0 (t.size + 1)) 0 0 = some (t.size, hh) := by
  unfold whole at e
  split at e
  · cases e
  · refine ⟨by omega, ?_⟩
    cases hq : pF s t 0 (pE s t 0 (t.size + 1)) 0 0 with
    | none => rw [hq] at e; cases e
    | some q =>
      obtain ⟨j, k⟩ := q
      rw [hq] at e
      simp only at e
      split at e
      · rename_i hj
        simp only [Option.some.injEq] at e
        rw [hj, e]
      · cases e

set_option maxHeartbeats 1000000 in
set_option maxRecDepth 1000000 in
theorem pRecall_ok {s t : ByteArray} (g : Gram s) (ten : Ten s) (h m hh : Nat) (w : World) (hw0 : whole s t 0 = some hh) (hl : 1 ≤ h ∧ h ≤ 9) (hm : 1 ≤ m ∧ m ≤ 5) (hhh : hh ≤ h) (hmx : (mx t : Int) ≤ m) :
    Calls Try.prog 23 #[.string s, .string t, .int .i64 h, .int .i64 m] w fun e w' => e = .returned (.tuple #[.string (strOfNums (told s t h m)), .int .i64 0]) ∧ Below w.heap.size w w' := by
  obtain ⟨ht, hpf⟩ := whole_parts hw0
  have htm : t.size ≤ maxLen := by unfold maxLen; omega
  have v := ev_of (c := t) g ten htm hm
  have hgd : Good t m 0 t.size := (mx_le t (by omega)).1 hmx
  have hL : Hid (decide (1 ≤ (h : Int) ∧ (h : Int) ≤ 9 ∧ 1 ≤ (m : Int) ∧ (m : Int) ≤ 5) = true) := hide (by simp; omega)
  have hN := gram_start g
  have hs := g.small
  have hF : isF s 0 = true := by unfold isF; rw [hN]; simp
  have hE : ∀ b, SaidQ b s t m (pw s 9) (t.size + 1) := fun b => recallExpression_all v ht hgd (t.size + 1)
  have hwh : wh s t = ((hh : Int), 0) := by unfold wh; rw [hw0]
  have HWH := hide hwh
  have HV := hide v
  have HE := hide hE
  have HF := hide hF
  have HG := hide g
  have HT := hide ten
  have HGD := hide hgd
  have HPF := hide hpf
  generalize hTT : told s t h m = TT
  have HTT := hide hTT
  obtain ⟨hl1, hl2⟩ := hl
  clear hTT v hE hF hgd hpf hwh hw0
  go_enter Try.func23, Try.ntmps23
  go_wp2_with (first
    | (go_at_call 22; refine (tHeight_any (unhide HG) _ htm).mono ?_; rw [unhide HWH]; rintro e w' ⟨rfl, hw⟩; replace hw := hw.symm; subst hw)
    | (go_at_call 31; refine (areLimits_any _ _ _).mono ?_; rw [unhide hL]; rintro e w' ⟨rfl, hw⟩; replace hw := hw.symm; subst hw)
    | (go_at_call 32; refine (mostElements_any _ _ ht).mono ?_; rintro e w' ⟨rfl, hw⟩; replace hw := hw.symm; subst hw)
    | fail)
  refine (newGuide_any (unhide HG) (unhide HT) _ _).mono ?_
  generalize pw s 9 = P at *
  rintro e w1 ⟨rfl, hb1⟩
  obtain ⟨t1, k1, b1⟩ := Mk.start w1 s t m P 55 #[.string ⟨#[]⟩, .int .i64 0, .int .i64 0, .int .i64 0, .int .i64 0, .int .i64 0, .int .i64 0, .int .i64 0, .int .i64 0, .int .i64 0, .int .i64 0, .int .i64 0, .int .i64 0, .int .i64 0, .int .i64 0, .int .i64 0, .int .i64 0, .int .i64 0, .int .i64 0, .int .i64 0, .int .i64 0, .int .i64 0, .int .i64 0, .int .i64 0, .int .i64 0, .int .i64 0, .int .i64 0, .int .i64 0, .string ⟨#[]⟩, .int .i64 0, .slice none 0 0] (by decide)
  obtain ⟨MV, hMV⟩ : ∃ MV, MV = (mks s t m P).toArray := ⟨_, rfl⟩
  have hML : MV.toList = mks s t m P := by rw [hMV]
  have hMs : MV.size = 31 := by rw [hMV]; simp [mks_len]
  rw [← hML] at k1 b1
  rw [← hMs] at t1
  have T1 := hide t1
  have K1 := hide k1
  have B1 := hide b1
  have hin : Hid ((Try.prog.info? 55).map (·.size) = some MV.size) := hide (by rw [hMs]; exact Try.infoRec)
  have hone : Hid (MV.all (·.oneCell') = true) := hide (by rw [hMV]; exact all_oneCell_toArray (mks_one _ _ _ _))
  generalize hGV : (gds s m P).toArray = GV
  have HBU : Hid (Try.prog.built 55 [(0, .agg GV), (1, .string t)] = some MV) := hide (by rw [← hGV, hMV]; exact Try.builtRec s t m P)
  clear t1 k1 b1 hML hMs hGV hMV
  go_wp2_with (first
    | (refine wpList_buildTo rfl 55 _ rfl _ rfl MV (by rw [Array.toList_map]; exact unhide HBU) ?_)
    | (refine wpList_store_mid rfl 55 _ _ rfl w1.heap.size 0 MV rfl rfl (unhide T1) (unhide hin) (unhide hone) ?_))
  generalize hw2 : World.setCells _ w1.heap.size 0 MV.toList = w2 at *
  clear hw2 T1
  refine (recallFactor_any (unhide HV) ht (unhide HGD) (unhide HE _) _ _ 0 h 0 t.size hh [] _ (unhide K1) rfl rfl hl2 (unhide HF) (unhide HPF) hhh (by simp)).mono ?_
  rintro e w3 ⟨rfl, hk3, hb3, hD3⟩
  have hbel : Below w.heap.size w w3 := (hb1.trans ((unhide B1).mono hb1.size)).trans (hb3.mono hb1.size)
  have hk3' : Mk w3 w1.heap.size s t m P t.size TT := by rw [← unhide HTT]; simpa [told] using hk3
  obtain ⟨ao, cap, ht30, hcv⟩ := conv_any hk3'
  have HB := hide hbel
  clear hk3 hk3' hb3 hbel hD3
  go_wp2
  go_ret2
  exact ⟨rfl, unhide HB⟩
end Go.Proofs.Ytnfaiaoipeholaa
