/- The program's Make. -/
import Derived.Test.YtnfaiaoipeholaaPMakeE
import Derived.Test.YtnfaiaoipeholaaMakeMath
import Derived.Test.YtnfaiaoipeholaaPHeight
import Derived.Laws.OwnMore
import Derived.Great.BuildSlice
namespace Go.Proofs.Ytnfaiaoipeholaa
open Go.RowKit

theorem ret_two' {a b : ByteArray} {c d : Int} (h : a = b) (g : c = d) : Ending.returned (.tuple #[.string a, .int .i64 c]) = .returned (.tuple #[.string b, .int .i64 d]) := by rw [h, g]

set_option maxHeartbeats 400000 in
theorem areChoices_any (c : ByteArray) (w : World) (hc : c.size ≤ maxLen) : Calls Try.prog 35 #[.string c] w fun e w' => e = .returned (.bool (decide (¬ (2000 < c.size)) && digs c)) ∧ w' = w := by
  have hc' := hc
  unfold maxLen at hc'
  by_cases h : 2000 < c.size
  · have e : (decide (¬ (2000 < c.size)) && digs c) = false := by simp [h]
    rw [e]; clear e
    go_enter Try.func35, Try.ntmps35
    go_wp2
    go_ret; exact ⟨rfl, rfl⟩
  · have e : (decide (¬ (2000 < c.size)) && digs c) = digs c := by simp [h]
    rw [e]; clear e
    generalize hR : digs c = R
    unfold digs at hR
    have HR := hide hR; clear hR
    go_enter Try.func35, Try.ntmps35
    go_wp2
    go_loop [3] (fun i => ∃ (k : Nat), k ≤ c.size ∧ i = .int .i64 k ∧ Hid (R = dgF c (c.size - k) k)) (fun i => c.size - (intOf i).toNat)
    case atStart => exact ⟨0, Nat.zero_le _, rfl, hide (unhide HR).symm⟩
    case round =>
      obtain ⟨k, hk, rfl, hr⟩ := hrel
      by_cases hlt : k < c.size
      · have hb := bt_at c k hlt
        have hst : Hid (R = (cD (bt c k) && dgF c (c.size - (k + 1)) (k + 1))) := hide (by rw [unhide hr, show c.size - k = c.size - (k + 1) + 1 by omega]; rfl)
        cases hd : cD (bt c k)
        · have HF : Hid (R = false) := hide (by rw [unhide hst, hd]; rfl)
          rw [hb] at hd
          have HD := hide hd
          clear hr hst hd
          go_wp2_with (go_at_call 61; refine (isDigit_any _ _).mono ?_; rw [unhide HD]; rintro e w' ⟨rfl, rfl⟩)
          go_ret
          exact ⟨ret_bool (unhide HF).symm, rfl⟩
        · have HF : Hid (R = dgF c (c.size - (k + 1)) (k + 1)) := hide (by rw [unhide hst, hd]; rfl)
          rw [hb] at hd
          have HD := hide hd
          clear hr hst hd
          go_wp2_with (go_at_call 61; refine (isDigit_any _ _).mono ?_; rw [unhide HD]; rintro e w' ⟨rfl, rfl⟩)
          go_round
          case rel => exact ⟨k + 1, by omega, by go_num, HF⟩
          case measure => simp [intOf]; omega
      · have HF : Hid (R = true) := hide (by rw [unhide hr, show c.size - k = 0 by omega]; rfl)
        clear hr
        go_wp2
        go_ret
        exact ⟨ret_bool (unhide HF).symm, rfl⟩

set_option maxHeartbeats 400000 in
theorem areLimits_any (h m : Int) (w : World) : Calls Try.prog 31 #[.int .i64 h, .int .i64 m] w fun e w' => e = .returned (.bool (decide (1 ≤ h ∧ h ≤ 9 ∧ 1 ≤ m ∧ m ≤ 5))) ∧ w' = w := by
  go_enter Try.func31, Try.ntmps31
  go_wp2
  all_goals (go_ret; exact ⟨ret_bool (by rw [Bool.eq_iff_iff]; simp; omega), rfl⟩)

/-- a maker as a value -/
def mks (s c : ByteArray) (m : Int) (P : Nat → Int) : List Value := gds s m P ++ [.string c, .int .i64 0, .slice none 0 0]
theorem mks_len (s c : ByteArray) (m : Int) (P : Nat → Int) : (mks s c m P).length = 31 := by simp [mks, gds_len]
theorem mks_one (s c : ByteArray) (m : Int) (P : Nat → Int) : ∀ v ∈ mks s c m P, v.oneCell' = true := by
  intro v hv
  simp only [mks, List.mem_append, List.mem_cons, List.not_mem_nil, or_false] at hv
  rcases hv with hv | rfl | rfl | rfl
  · exact gds_one s m P v hv
  · rfl
  · rfl
  · rfl
theorem Try.infoMaker : (Try.prog.info? 58).map (·.size) = some 31 := by kernel_rfl
theorem Try.builtMaker (s c : ByteArray) (m : Int) (P : Nat → Int) : Try.prog.built 58 [(0, .agg (gds s m P).toArray), (1, .string c)] = some (mks s c m P).toArray := by kernel_rfl
theorem Mk.start (w : World) (s c : ByteArray) (m : Int) (P : Nat → Int) (t : TypeId) (C : Array Value) (hC : 31 ≤ C.size) :
    (w.alloc (.cells C t)).there w.heap.size 0 31 ∧ Mk ((w.alloc (.cells C t)).setCells w.heap.size 0 (mks s c m P)) w.heap.size s c m P 0 [] ∧ Below w.heap.size w ((w.alloc (.cells C t)).setCells w.heap.size 0 (mks s c m P)) := by
  have h0 := there_alloc w C t 31 hC
  have hb : Below w.heap.size w ((w.alloc (.cells C t)).setCells w.heap.size 0 (mks s c m P)) := below_setRow _ (Nat.le_refl _) _ _ ((Below.refl _ _).alloc (Nat.le_refl _) _)
  have hr : ((w.alloc (.cells C t)).setCells w.heap.size 0 (mks s c m P)).rangeAt w.heap.size 0 (mks s c m P) := World.rangeAt_setCells_same _ _ _ _ (by rw [mks_len]; exact h0)
  have hf : ∀ j, j < 31 → ((w.alloc (.cells C t)).setCells w.heap.size 0 (mks s c m P)).frozen? ⟨w.heap.size, j, none⟩ = false := fun j hj => by
    rw [World.frozen?_setCells]
    have := (h0 j hj).2
    rwa [Nat.zero_add] at this
  generalize hW : (w.alloc (.cells C t)).setCells w.heap.size 0 (mks s c m P) = W at *
  have hat : ∀ j v, [Value.string c, .int .i64 0, .slice none 0 0][j]? = some v → W.cell? ⟨w.heap.size, 28 + j, none⟩ = some v := fun j v hv => by
    have := hr (28 + j) v (by rw [mks, List.getElem?_append_right (by rw [gds_len]; omega), gds_len, Nat.add_sub_cancel_left]; exact hv)
    rwa [Nat.zero_add] at this
  refine ⟨h0, ⟨Gd.of_range (fun j v hv => hr j v ?_), ?_, hat 0 _ rfl, hat 1 _ rfl, hf 29 (by omega), ⟨_, hat 2 _ rfl, World.ownsRow_nil W _ _ _⟩, hf 30 (by omega)⟩, hb⟩
  · rw [mks, List.getElem?_append_left (List.getElem?_eq_some_iff.1 hv).1]; exact hv
  · have := hb.size
    obtain ⟨hs, _⟩ := List.getElem?_eq_some_iff.1 (show (mks s c m P)[0]? = some (.string s) from rfl)
    exact World.block_lt_of_cell? W ⟨w.heap.size, 0 + 0, none⟩ (hr 0 _ rfl)

theorem ev_of {s c : ByteArray} (g : Gram s) (ten : Ten s) (hc : c.size ≤ maxLen) {m : Nat} (hm : 1 ≤ m ∧ m ≤ 5) : Ev s c m (pw s 9) := by
  refine ⟨g, ten, hc, hm, fun l i hl hi => ?_⟩
  have hO : ∀ j, Occ s j → rl s (65 + j : Nat) ≠ -1 := fun j hj => by
    obtain ⟨f, hf, hi⟩ := hj
    have hv : 65 ≤ bt s f ∧ bt s f ≤ 90 := by simpa [cN] using hf
    obtain ⟨k, h1, _⟩ := g.name f hf
    rw [show ((65 + j : Nat) : Int) = bt s f by omega, h1]; omega
  rw [Bool.eq_iff_iff, ← pw_fit hO 9 (by omega) i l hi hl]
  simp [nmP]

/-- a row of bytes as a text -/
theorem conv_tree {w : World} {b : Nat} {s c : ByteArray} {m : Int} {P : Nat → Int} {a : Nat} {T : List Int} (hk : Mk w b s c m P a T) (h0 : 0 < T.length) :
    ∃ g cap, w.cell? ⟨b, 30, none⟩ = some (.slice (some ⟨g, 0, none⟩) T.length cap) ∧ (convert 45 9 (.slice (some ⟨g, 0, none⟩) T.length cap)).run Try.prog w = .ok (.string (strOfNums T)) w := by
  obtain ⟨v, h1, h2⟩ := hk.tre
  rcases h2.2 with ⟨_, e⟩ | ⟨g, cap, cur, e, _⟩
  · omega
  · subst e
    refine ⟨g, cap, h1, run_convert_bytes_arg _ 45 5 Try.underlying45 Try.underlying5 g 0 T.length cap T rfl (fun i hi => ?_) _ Try.underlying9⟩
    rw [Nat.zero_add, h2.cellAt i (by omega)]
    unfold byts
    rw [List.getElem?_map, List.getElem?_eq_getElem hi, List.getD_eq_getElem?_getD, List.getElem?_eq_getElem hi]; rfl

set_option maxHeartbeats 1000000 in
set_option maxRecDepth 1000000 in
theorem pMake_ok {s c : ByteArray} (g : Gram s) (ten : Ten s) (h m : Nat) (w : World) (hc : c.size ≤ maxLen) (h1 : ¬ 2000 < c.size) (h2 : digs c = true) (hh : 1 ≤ h ∧ h ≤ 9) (hm : 1 ≤ m ∧ m ≤ 5) :
    Calls Try.prog 24 #[.string s, .string c, .int .i64 h, .int .i64 m] w fun e w' => e = .returned (.tuple #[.string (mkR s c h m).1, .int .i64 (mkR s c h m).2]) ∧ Below w.heap.size w w' := by
  have v := ev_of (c := c) g ten hc hm
  have hA : Hid ((decide (¬ (2000 < c.size)) && digs c) = true) := hide (by simp [h1, h2])
  have hL : Hid (decide (1 ≤ (h : Int) ∧ (h : Int) ≤ 9 ∧ 1 ≤ (m : Int) ∧ (m : Int) ≤ 5) = true) := hide (by simp; omega)
  have hN := gram_start g
  have hs := g.small
  have hF : isF s 0 = true := by unfold isF; rw [hN]; simp
  have hff : facFit s (nFit s h) (expFit s (nFit s h)) 0 = nFit s h (bt s (0 : Nat) - 65).toNat := by unfold facFit; rw [if_pos hN]
  have hff1 : facFit s (nmP (pw s 9) (h : Nat)) (expFit s (nmP (pw s 9) (h : Nat))) 0 = nFit s h (bt s (0 : Nat) - 65).toNat := by
    unfold facFit; rw [if_pos hN]; exact v.fit h _ hh.2 ⟨0, hN, rfl⟩
  have hX : SaidG s m (pw s 9) (h : Nat) (s.size + 1) := expressionFits_all ten hs _
  have hE : ∀ b, SaidM b s c m (pw s 9) (full s) := fun b => makeExpression_all v (full s) (by have := full_le hs; omega)
  have hfu := full_le hs
  have hmk : mkR s c h m = if nFit s h (bt s (0 : Nat) - 65).toNat = false then (⟨#[]⟩, 10) else if 2000 < (made s c h m).2.length then (⟨#[]⟩, 11) else (strOfNums (made s c h m).2, 0) := by
    unfold mkR
    rw [if_neg (by simp [h1, h2]), if_neg (by omega)]
    simp only [Int.toNat_natCast]
  have hpos : 0 < (made s c h m).2.length := by unfold made genF; rw [if_pos hN]; simp
  generalize mkR s c h m = R at *
  have HMK := hide hmk
  obtain ⟨hh1, hh2⟩ := hh
  have HV := hide v
  have HX := hide hX
  have HE := hide hE
  have HF := hide hF
  have HFF := hide hff
  have HFF1 := hide hff1
  have HG := hide g
  have HT := hide ten
  clear hmk v hX hE hF hff hff1
  go_enter Try.func24, Try.ntmps24
  go_wp2_with (first
    | (go_at_call 35; refine (areChoices_any _ _ hc).mono ?_; rw [unhide hA]; rintro e w' ⟨rfl, hw⟩; replace hw := hw.symm; subst hw)
    | (go_at_call 31; refine (areLimits_any _ _ _).mono ?_; rw [unhide hL]; rintro e w' ⟨rfl, hw⟩; replace hw := hw.symm; subst hw))
  refine (newGuide_any (unhide HG) (unhide HT) _ _).mono ?_
  generalize pw s 9 = P at *
  rintro e w1 ⟨rfl, hb1⟩
  obtain ⟨t1, k1, b1⟩ := Mk.start w1 s c m P 58 #[.string ⟨#[]⟩, .int .i64 0, .int .i64 0, .int .i64 0, .int .i64 0, .int .i64 0, .int .i64 0, .int .i64 0, .int .i64 0, .int .i64 0, .int .i64 0, .int .i64 0, .int .i64 0, .int .i64 0, .int .i64 0, .int .i64 0, .int .i64 0, .int .i64 0, .int .i64 0, .int .i64 0, .int .i64 0, .int .i64 0, .int .i64 0, .int .i64 0, .int .i64 0, .int .i64 0, .int .i64 0, .int .i64 0, .string ⟨#[]⟩, .int .i64 0, .slice none 0 0] (by decide)
  obtain ⟨MV, hMV⟩ : ∃ MV, MV = (mks s c m P).toArray := ⟨_, rfl⟩
  have hML : MV.toList = mks s c m P := by rw [hMV]
  have hMs : MV.size = 31 := by rw [hMV]; simp [mks_len]
  rw [← hML] at k1 b1
  rw [← hMs] at t1
  have T1 := hide t1
  have K1 := hide k1
  have B1 := hide b1
  have hin : Hid ((Try.prog.info? 58).map (·.size) = some MV.size) := hide (by rw [hMs]; exact Try.infoMaker)
  have hone : Hid (MV.all (·.oneCell') = true) := hide (by rw [hMV]; exact all_oneCell_toArray (mks_one _ _ _ _))
  generalize hGV : (gds s m P).toArray = GV
  have HBU : Hid (Try.prog.built 58 [(0, .agg GV), (1, .string c)] = some MV) := hide (by rw [← hGV, hMV]; exact Try.builtMaker s c m P)
  clear t1 k1 b1 hML hMs hGV hMV
  go_wp2_with (first
    | (refine wpList_buildTo rfl 58 _ rfl _ rfl MV (by rw [Array.toList_map]; exact unhide HBU) ?_)
    | (refine wpList_store_mid rfl 58 _ _ rfl w1.heap.size 0 MV rfl rfl (unhide T1) (unhide hin) (unhide hone) ?_))
  generalize hw2 : World.setCells _ w1.heap.size 0 MV.toList = w2 at *
  clear hw2 T1
  cases hfit : nFit s h (bt s (0 : Nat) - 65).toNat
  · have HR : Hid (R = (⟨#[]⟩, 10)) := hide (by rw [unhide HMK, if_pos hfit])
    have HFI := hide hfit
    clear hfit HMK
    go_wp2_with (go_at_call 36; refine (factorFits_any (unhide HT) hs (unhide HX) _ 0 _ _ (unhide K1).gd rfl (unhide HF) (by omega)).mono ?_; rw [unhide HFF1, unhide HFI]; rintro e w' ⟨rfl, hw⟩; replace hw := hw.symm; subst hw)
    go_ret2
    exact ⟨ret_two' (by rw [unhide HR]) (by rw [unhide HR]), hb1.trans ((unhide B1).mono hb1.size)⟩
  · have HR : Hid (R = if 2000 < (made s c h m).2.length then (⟨#[]⟩, 11) else (strOfNums (made s c h m).2, 0)) := hide (by rw [unhide HMK, if_neg (by rw [hfit]; decide)])
    have HFI := hide hfit
    clear hfit HMK
    go_wp2_with (first
      | (go_at_call 36; refine (factorFits_any (unhide HT) hs (unhide HX) _ 0 _ _ (unhide K1).gd rfl (unhide HF) (by omega)).mono ?_; rw [unhide HFF1, unhide HFI]; rintro e w' ⟨rfl, hw⟩; replace hw := hw.symm; subst hw)
      | fail)
    refine (makeFactor_any (unhide HV) (by omega) (unhide HE _) _ _ 0 0 h 0 [] _ (unhide K1) rfl rfl hh2 (unhide HF) (by rw [unhide HFF]; exact unhide HFI) (Nat.le_refl _) (full_dep hh2) (by simp) (by simp)).mono ?_
    rintro e w3 ⟨rfl, a3, T3, hk3, hb3, he3, ha3, hT3⟩
    have hbel : Below w.heap.size w w3 := (hb1.trans ((unhide B1).mono hb1.size)).trans (hb3.mono hb1.size)
    have he : Ends [] (made s c h m) a3 T3 := he3
    obtain ⟨_, he1, he2⟩ := he
    simp only [List.length_nil, Nat.zero_add, List.nil_append] at he1 he2
    by_cases hbig : 2000 < (made s c h m).2.length
    · have hTb := he2 hbig
      have hbig' : Hid (decide (2000 < T3.length) = true) := hide (by simp [hTb])
      have HR2 : Hid (R = (⟨#[]⟩, 11)) := hide (by rw [unhide HR, if_pos hbig])
      have HK3 := hide hk3
      have HB := hide hbel
      clear he1 he2 he3 hk3 hb3 hbel HR
      go_wp2_with (go_at_call 38; refine (isBig_any (unhide HK3) (by omega)).mono ?_; rw [unhide hbig']; rintro e w' ⟨rfl, hw⟩; replace hw := hw.symm; subst hw)
      go_ret2
      exact ⟨ret_two' (by rw [unhide HR2]) (by rw [unhide HR2]), unhide HB⟩
    · obtain ⟨_, hTe⟩ := he1 (by omega)
      have hT0 : 0 < T3.length := by rw [hTe]; exact hpos
      have hbig' : Hid (decide (2000 < T3.length) = false) := hide (by rw [hTe]; simp [hbig])
      have HR2 : Hid (R = (strOfNums T3, 0)) := hide (by rw [unhide HR, if_neg hbig, hTe])
      obtain ⟨gg, cap, ht, hcv⟩ := conv_tree hk3 hT0
      have HK3 := hide hk3
      have HB := hide hbel
      clear he1 he2 he3 hk3 hb3 hbel HR hTe
      go_wp2_with (go_at_call 38; refine (isBig_any (unhide HK3) (by omega)).mono ?_; rw [unhide hbig']; rintro e w' ⟨rfl, hw⟩; replace hw := hw.symm; subst hw)
      go_ret2
      exact ⟨ret_two' (by rw [unhide HR2]) (by rw [unhide HR2]), unhide HB⟩
end Go.Proofs.Ytnfaiaoipeholaa
