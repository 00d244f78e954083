/- The program's Parse. -/
import Derived.Test.YtnfaiaoipeholaaGreatUWrt
import Derived.Test.YtnfaiaoipeholaaGreatUNch
import Derived.Test.YtnfaiaoipeholaaGreatUPar
import Derived.Test.YtnfaiaoipeholaaGreatChk
namespace Go.Proofs.YtnfaiaoipeholaaGreat
open Go.RowKit
section
variable {s u : ByteArray}
set_option maxHeartbeats 400000 in
theorem isWord_any (u : ByteArray) (w : World) (hu : u.size ≤ maxLen) : Calls Tryz.prog 50 #[.string u] w fun e w' => e = .returned (.bool (isW u)) ∧ w' = w := by
  have hu' := hu
  unfold maxLen at hu'
  by_cases h : 20 < u.size
  · have e : isW u = false := by simp [isW, h]
    rw [e]; clear e
    go_enter Tryz.func50, Tryz.ntmps50
    go_wp2
    go_ret; exact ⟨rfl, rfl⟩
  · have e : isW u = ltF u u.size 0 := by simp [isW, h]
    rw [e]; clear e
    generalize hR : ltF u u.size 0 = R
    have HR := hide hR; clear hR
    go_enter Tryz.func50, Tryz.ntmps50
    go_wp2
    go_loop [3] (fun i => ∃ (k : Nat), k ≤ u.size ∧ i = .int .i64 k ∧ Hid (R = ltF u (u.size - k) k)) (fun i => u.size - (intOf i).toNat)
    case atStart => exact ⟨0, Nat.zero_le _, rfl, hide (unhide HR).symm⟩
    case round =>
      obtain ⟨k, hk, rfl, hr⟩ := hrel
      by_cases hlt : k < u.size
      · have hb := bt_at u k hlt
        have hst : Hid (R = (cL (bt u k) && ltF u (u.size - (k + 1)) (k + 1))) := hide (by rw [unhide hr, show u.size - k = u.size - (k + 1) + 1 by omega]; rfl)
        cases hd : cL (bt u k)
        · have HF : Hid (R = false) := hide (by rw [unhide hst, hd]; rfl)
          rw [hb] at hd
          have HD := hide hd
          clear hr hst hd
          go_wp2_with (go_at_call 92; refine (isLetter_any _ _).mono ?_; rw [unhide HD]; rintro e w' ⟨rfl, rfl⟩)
          go_ret
          exact ⟨ret_bool (unhide HF).symm, rfl⟩
        · have HF : Hid (R = ltF u (u.size - (k + 1)) (k + 1)) := hide (by rw [unhide hst, hd]; rfl)
          rw [hb] at hd
          have HD := hide hd
          clear hr hst hd
          go_wp2_with (go_at_call 92; refine (isLetter_any _ _).mono ?_; rw [unhide HD]; rintro e w' ⟨rfl, rfl⟩)
          go_round
          case rel => exact ⟨k + 1, by omega, by go_num, HF⟩
          case measure => simp [intOf]; omega
      · have HF : Hid (R = true) := hide (by rw [unhide hr, show u.size - k = 0 by omega]; rfl)
        clear hr
        go_wp2
        go_ret
        exact ⟨ret_bool (unhide HF).symm, rfl⟩

theorem Tab.start {w : World} {b o g : Nat} (h1 : w.cell? ⟨b, o, none⟩ = some (.int .i64 ((u.size : Int) + 1))) (h2 : w.cell? ⟨b, o + 1, none⟩ = some (.slice (some ⟨g, 0, none⟩) (s.size * (u.size + 1) * (u.size + 1)) (s.size * (u.size + 1) * (u.size + 1)))) (h3 : w.rowIs g 3 (s.size * (u.size + 1) * (u.size + 1)) (fun _ => .int .i64 2001)) : Tab w b o g s.size u.size emT :=
  ⟨h1, h2, fun _ _ _ hp ha he => h3.cell (ix_lt hp ha he), fun _ _ _ _ _ _ => h3.frozen _, fun _ _ _ _ => rfl⟩
theorem Ch.start {w w1 : World} {q r x y : Nat} (hn : NC s u w w1 q r x y) (hs : s.size ≤ 300) (hu : u.size ≤ 20) (t : TypeId) (C : Array Value) (hC : 9 ≤ C.size) (hy : y < w1.heap.size) :
    (w1.alloc (.cells C t)).there w1.heap.size 0 9 ∧ Ch ((w1.alloc (.cells C t)).setCells w1.heap.size 0 (chV s u q r x y)) w1.heap.size s u r x y q emT emT emT ∧ Below w1.heap.size w1 ((w1.alloc (.cells C t)).setCells w1.heap.size 0 (chV s u q r x y)) := by
  have h0 := thr_alloc w1 C t 9 hC
  have hb : Below w1.heap.size w1 ((w1.alloc (.cells C t)).setCells w1.heap.size 0 (chV s u q r x y)) := below_setRow _ (Nat.le_refl _) _ _ ((Below.refl _ _).alloc (Nat.le_refl _) _)
  have hr : ((w1.alloc (.cells C t)).setCells w1.heap.size 0 (chV s u q r x y)).rangeAt w1.heap.size 0 (chV s u q r x y) := World.rangeAt_setCells_same _ _ _ _ h0
  generalize (w1.alloc (.cells C t)).setCells w1.heap.size 0 (chV s u q r x y) = w2 at *
  obtain ⟨l1, l2, l3, l4⟩ := hn.lt
  have hat : ∀ j v, (chV s u q r x y)[j]? = some v → w2.cell? ⟨w1.heap.size, j, none⟩ = some v := fun j v hv => by
    have := hr j v hv
    rwa [Nat.zero_add] at this
  have hq := hn.sp.of_block (hb.block q (by omega))
  have hspc : ∀ p j, p < s.size → j < 4 → w2.cell? ⟨q, p * 4 + j, none⟩ = some (spc s p j) := fun p j hp hj => by
    have := hq.cell (i := p * 4 + j) (by omega)
    rw [this, if_pos (by omega), show (p * 4 + j) / 4 = p by omega, show (p * 4 + j) % 4 = j by omega]
  refine ⟨h0, ⟨hat 0 _ rfl, hat 1 _ rfl, hat 2 _ rfl, fun p hp => hspc p 0 hp (by omega), fun p hp => hspc p 1 hp (by omega), fun p hp => hspc p 2 hp (by omega), fun p hp => hspc p 3 hp (by omega), Tab.start (hat 3 _ rfl) (hat 4 _ rfl) (hn.tr.of_block (hb.block r (by omega))), Tab.start (hat 5 _ rfl) (hat 6 _ rfl) (hn.tx.of_block (hb.block x (by omega))), Tab.start (hat 7 _ rfl) (hat 8 _ rfl) (hn.ty.of_block (hb.block y (by omega))), hs, hu, ⟨⟨by omega, by omega, by omega⟩, ⟨by omega, by omega, by omega⟩, ⟨by omega, by omega, by omega⟩⟩⟩, hb⟩
end
end Go.Proofs.YtnfaiaoipeholaaGreat
/- The program's Parse, whole. -/
namespace Go.Proofs.YtnfaiaoipeholaaGreat
open Go.RowKit
section
variable {s u : ByteArray}
theorem wret_two {a b : ByteArray} {c d : Int} (h : a = b) (g : c = d) : Ending.returned (.tuple #[.string a, .int .i64 c]) = .returned (.tuple #[.string b, .int .i64 d]) := by rw [h, g]
theorem start_isF (g : Gram s) : isF s 0 = true := by
  have := (g.rule 0 g.pos (by simp [begB])).1
  unfold isF; rw [this]; simp
/-- a row of bytes as a text -/
theorem wconv_tree {w : World} {wb b : Nat} {r x y q : Nat} {R X W : Tb} {T : List Int} (hk : Wt w wb b s u r x y q R X W T) (h0 : 0 < T.length) :
    ∃ g cap, w.cell? ⟨wb, 1, none⟩ = some (.slice (some ⟨g, 0, none⟩) T.length cap) ∧ (convert 31 9 (.slice (some ⟨g, 0, none⟩) T.length cap)).run Tryz.prog w = .ok (.string (strOfNums T)) w := by
  obtain ⟨v, h1, h2⟩ := hk.tre
  rcases h2.2 with ⟨_, e⟩ | ⟨g, cap, cur, e, _⟩
  · omega
  · subst e
    refine ⟨g, cap, h1, run_convert_bytes_arg _ 31 5 Tryz.underlying31 Tryz.underlying5 g 0 T.length cap T rfl (fun i hi => ?_) _ Tryz.underlying9⟩
    rw [Nat.zero_add, h2.cellAt i (by omega)]
    unfold wby
    rw [List.getElem?_map, List.getElem?_eq_getElem hi, List.getD_eq_getElem?_getD, List.getElem?_eq_getElem hi]; rfl

theorem Wt.start {w : World} {b r x y q : Nat} {R X W : Tb} {t : TypeId} (h : Ch w b s u r x y q R X W) (hl : b < w.heap.size ∧ r < w.heap.size ∧ x < w.heap.size ∧ y < w.heap.size ∧ q < w.heap.size) :
    Wt (w.alloc (.cells #[.pointer (some ⟨b, 0, none⟩), .slice none 0 0] t)) w.heap.size b s u r x y q R X W [] := by
  refine ⟨h.below ((Below.refl _ _).alloc (Nat.le_refl _) _), by simp, hl, ?_, ⟨_, ?_, World.ownsRow_nil _ _ _ _⟩, World.frozen?_alloc_new w _ t 1⟩
  · rw [World.cell?_alloc_new]; rfl
  · rw [World.cell?_alloc_new]; rfl
set_option maxHeartbeats 1000000 in
set_option maxRecDepth 1000000 in
theorem pParse_no [Inhabited Chr] (w : World) (hu : u.size ≤ maxLen) (h : isW u = false) : Calls Tryz.prog 29 #[.string s, .string u] w fun e w' => e = .returned (.tuple #[.string (prsR s u).1, .int .i64 (prsR s u).2]) ∧ Below w.heap.size w w' := by
  have e : prsR s u = (⟨#[]⟩, 12) := by unfold prsR; rw [if_pos h]
  rw [e]
  have H := hide h
  clear h e
  go_enter Tryz.func29, Tryz.ntmps29
  go_wp2_with (go_at_call 50; refine (isWord_any _ _ hu).mono ?_; rw [unhide H]; rintro e w' ⟨rfl, hw⟩; replace hw := hw.symm; subst hw)
  go_ret2
  exact ⟨rfl, Below.refl _ _⟩

set_option maxHeartbeats 1000000 in
set_option maxRecDepth 1000000 in
theorem pParse_ok [Inhabited Chr] (g : Gram s) (ins : Ins s) (w : World) (h : isW u = true) : Calls Tryz.prog 29 #[.string s, .string u] w fun e w' => e = .returned (.tuple #[.string (prsR s u).1, .int .i64 (prsR s u).2]) ∧ Below w.heap.size w w' ∧ HasFix s u := by
  have hu20 : u.size ≤ 20 := by
    have : ¬ 20 < u.size ∧ ltF u u.size 0 = true := by simpa [isW] using h
    omega
  have hu : u.size ≤ maxLen := by unfold maxLen; omega
  have hs := g.small
  have HF := hide (start_isF g)
  have H := hide h
  clear h
  generalize hPost : (fun (e : Ending) (w' : World) => e = .returned (.tuple #[.string (prsR s u).1, .int .i64 (prsR s u).2]) ∧ Below w.heap.size w w' ∧ HasFix s u) = Post
  have HP := hide hPost
  clear hPost
  go_enter Tryz.func29, Tryz.ntmps29
  go_wp2_with (first
    | (go_at_call 50; refine (isWord_any _ _ hu).mono ?_; rw [unhide H]; rintro e w' ⟨rfl, hw⟩; replace hw := hw.symm; subst hw)
    | fail)
  refine (newChart_any g hu20 _).mono ?_
  rintro e w1 ⟨q, r, x, y, rfl, hnc⟩
  have hyl := hnc.ty.lt
  obtain ⟨l1, l2, l3, l4⟩ := hnc.lt
  obtain ⟨t1, k1, b1⟩ := Ch.start hnc hs hu20 75 #[.string ⟨#[]⟩, .string ⟨#[]⟩, .slice none 0 0, .int .i64 0, .slice none 0 0, .int .i64 0, .slice none 0 0, .int .i64 0, .slice none 0 0] (by decide) hyl
  obtain ⟨MV, hMV⟩ : ∃ MV, MV = (chV s u q r x y).toArray := ⟨_, rfl⟩
  have hML : MV.toList = chV s u q r x y := by rw [hMV]
  have hMs : MV.size = 9 := by rw [hMV]; rfl
  rw [← hML] at k1 b1
  rw [← hMs] at t1
  have T1 := hide t1
  have K1 := hide k1
  have B1 : Hid (Below w.heap.size w _) := hide (hnc.bel.trans (b1.mono hnc.bel.size))
  have HIN : Hid ((Tryz.prog.info? 75).map (·.size) = some MV.size) := hide (by rw [hMs]; exact Tryz.infoChart)
  have HON : Hid (MV.all (·.oneCell') = true) := hide (by rw [hMV]; exact all_oneCell_toArray (chV_one _ _ _ _ _ _))
  rw [← hMV]
  clear t1 k1 b1 hML hMs hMV hnc
  go_wp2_with (first
    | (refine wpList_store_mid rfl 75 _ _ rfl w1.heap.size 0 MV rfl rfl (unhide T1) (unhide HIN) (unhide HON) ?_)
    | fail)
  generalize hw2 : World.setCells _ w1.heap.size 0 MV.toList = w2 at *
  clear hw2 T1
  refine (fill_any g ins (unhide K1) (B := w.heap.size) ⟨by omega, by omega, by omega⟩).mono ?_
  rintro e w3 ⟨R, X, W, rfl, k3, fx, b3⟩
  have HFX := hide fx
  have HB3 : Hid (Below w.heap.size w w3) := hide ((unhide B1).trans b3)
  have hbl := lt_cell k3.gram
  have H4 := hide (cfac_any g ins fx.toNrm k3 0 0 u.size 0 0 u.size (unhide HF) (Nat.zero_le _) (Nat.le_refl _) rfl rfl rfl)
  have HTB := hide (tabs_eq fx)
  have hpos : 1 ≤ fcC s u X W 0 0 u.size := fcC_pos
  have HPE : Hid (prsR s u = if 2000 < fcC s u X W 0 0 u.size then (⟨#[]⟩, 13) else (strOfNums (wrS s u R X W), 0)) := hide (by
    unfold prsR
    rw [if_neg (by rw [unhide H]; decide), tabs_eq fx])
  have HWF := hide (fun (w5 : World) (wb : Nat) (h5 : Wt w5 wb w1.heap.size s u r x y q R X W []) (hv : fcC s u X W 0 0 u.size ≤ 2000) => writeFactor_any fx g ins (writeExpression_all fx g ins (fcC s u X W 0 0 u.size)) h5 0 0 u.size 0 0 u.size (unhide HF) (Nat.zero_le _) (Nat.le_refl _) hv (by omega) (by simp; omega) rfl rfl rfl)
  have hlen := fun hv => (wrF_ok (t := s) (n := fcC s u X W 0 0 u.size) (N := fcC s u X W 0 0 u.size) fx g ins (Nat.le_refl _) (wrE_ok fx g ins _) (unhide HF) (Nat.zero_le _) (Nat.le_refl _) hv (by omega)).len
  have HLN := hide hlen
  have K3 := hide k3
  have hWS : Hid (wrF s X W (wrE s u R X W (fcC s u X W 0 0 u.size)) 0 0 u.size = wrS s u R X W) := hide rfl
  rw [unhide hWS] at HWF HLN
  have hz3 : w1.heap.size < w3.heap.size := hbl
  generalize wrS s u R X W = L at *
  generalize fcC s u X W 0 0 u.size = V at *
  clear fx k3 hlen HTB K1 B1 HIN HON b3
  by_cases hbig : 2000 < V
  · have HR : Hid (prsR s u = (⟨#[]⟩, 13)) := hide (by rw [unhide HPE, if_pos hbig])
    clear HPE
    go_wp2_with fail
    refine (unhide H4).mono ?_
    rintro e4' w4 ⟨rfl, hb4⟩
    have HB4 : Hid (Below w.heap.size w w4) := hide ((unhide HB3).trans (hb4.mono (unhide HB3).size))
    clear hb4
    go_wp2
    rw [← unhide HP]
    exact ⟨wret_two (by rw [unhide HR]) (by rw [unhide HR]), unhide HB4, ⟨R, X, W, unhide HFX⟩⟩
  · have HR : Hid (prsR s u = (strOfNums L, 0)) := hide (by rw [unhide HPE, if_neg hbig])
    clear HPE
    go_wp2_with fail
    refine (unhide H4).mono ?_
    rintro e4' w4 ⟨rfl, hb4⟩
    have HB4 : Hid (Below w.heap.size w w4) := hide ((unhide HB3).trans (hb4.mono (unhide HB3).size))
    have K4 := hide ((unhide K3).below hb4)
    have hz4 := hb4.size
    clear hb4
    go_wp2_with fail
    have hWt := Wt.start (unhide K4) (t := 80) ⟨by omega, by omega, by omega, by omega, by omega⟩
    have HB5 : Hid (∀ o, Below w.heap.size w (w4.alloc o)) := hide (fun o => (unhide HB4).alloc (unhide HB4).size o)
    have hz5 := (unhide HB4).size
    have hln := unhide HLN (by omega)
    refine (unhide HWF _ _ hWt (by omega)).mono ?_
    rintro e5' w5 ⟨rfl, hk5, hb5⟩
    rw [List.nil_append] at hk5
    obtain ⟨gg, cap, ht, hcv⟩ := wconv_tree hk5 (by omega)
    have HB6 : Hid (Below w.heap.size w w5) := hide ((unhide HB5 _).trans (hb5.mono hz5))
    rw [hln] at ht hcv
    clear hk5 hb5 hWt HWF hln
    go_wp2
    rw [← unhide HP]
    exact ⟨wret_two (by rw [unhide HR]) (by rw [unhide HR]), unhide HB6, ⟨R, X, W, unhide HFX⟩⟩

/-- what Parse answers -/
def OutP [Inhabited Chr] (s u : ByteArray) (w : World) (e : Ending) (w' : World) : Prop :=
  e = .returned (.tuple #[.string (prs s u).1, .int .i64 (prs s u).2]) ∧ Below w.heap.size w w' ∧ ((chk s).1 = 0 → isW u = true → HasFix s u)
set_option maxHeartbeats 1000000 in
set_option maxRecDepth 1000000 in
theorem parse_any [Inhabited Chr] (w : World) (hs : s.size ≤ maxLen) (hu : u.size ≤ maxLen) : Calls Tryz.prog 20 #[.string s, .string u] w (OutP s u w) := by
  by_cases h : (chk s).1 = 0
  · have g := gram_of h
    have ins := ins_chk h
    have HE : Hid (prsR s u = prs s u) := hide (by unfold prs; rw [if_neg (by simp [h])])
    have h' : ((chk s).1 != 0) = false := by simp [h]
    have HC := hide h
    clear h
    cases hw : isW u
    · have HW := hide hw
      have HO : Hid (∀ e w', e = .returned (.tuple #[.string (prs s u).1, .int .i64 (prs s u).2]) → Below w.heap.size w w' → OutP s u w e w') := hide (fun e w' h1 h2 => ⟨h1, h2, fun _ h3 => by rw [unhide HW] at h3; cases h3⟩)
      clear hw
      generalize OutP s u w = Post at *
      go_enter Tryz.func20, Tryz.ntmps20
      go_wp2_with (first
        | (go_at_call 25; refine (rcheck_any _ _ hs).mono ?_; rintro e w1 ⟨rfl, hb1⟩; replace hb1 := hide hb1)
        | (go_at_call 29; refine (pParse_no _ hu (unhide HW)).mono ?_; rw [unhide HE]; rintro e w2 ⟨rfl, hb2⟩; replace hb2 := hide hb2))
      exact unhide HO _ _ rfl ((unhide hb1).trans ((unhide hb2).mono (unhide hb1).size))
    · have HW := hide hw
      have HO : Hid (∀ e w', e = .returned (.tuple #[.string (prs s u).1, .int .i64 (prs s u).2]) → Below w.heap.size w w' → HasFix s u → OutP s u w e w') := hide (fun e w' h1 h2 h3 => ⟨h1, h2, fun _ _ => h3⟩)
      clear hw
      generalize OutP s u w = Post at *
      go_enter Tryz.func20, Tryz.ntmps20
      go_wp2_with (first
        | (go_at_call 25; refine (rcheck_any _ _ hs).mono ?_; rintro e w1 ⟨rfl, hb1⟩; replace hb1 := hide hb1)
        | (go_at_call 29; refine (pParse_ok g ins _ (unhide HW)).mono ?_; rw [unhide HE]; rintro e w2 ⟨rfl, hb2, hfx⟩; replace hb2 := hide hb2; replace hfx := hide hfx))
      exact unhide HO _ _ rfl ((unhide hb1).trans ((unhide hb2).mono (unhide hb1).size)) (unhide hfx)
  · have HO : Hid (∀ e w', e = .returned (.tuple #[.string ⟨#[]⟩, .int .i64 (chk s).1]) → Below w.heap.size w w' → OutP s u w e w') := hide (fun e w' h1 h2 => ⟨by rw [h1]; unfold prs; rw [if_pos h], h2, fun h3 => absurd h3 h⟩)
    have h' : ((chk s).1 != 0) = true := by simp [h]
    clear h
    generalize OutP s u w = Post at *
    go_enter Tryz.func20, Tryz.ntmps20
    go_wp2_with (first
      | (go_at_call 25; refine (rcheck_any _ _ hs).mono ?_; rintro e w1 ⟨rfl, hb1⟩; replace hb1 := hide hb1))
    exact unhide HO _ _ rfl (unhide hb1)
end
end Go.Proofs.YtnfaiaoipeholaaGreat
