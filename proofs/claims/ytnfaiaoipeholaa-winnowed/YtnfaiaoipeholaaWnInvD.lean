/- What was made can be made again. No Go here. -/
import Derived.Test.YtnfaiaoipeholaaWnInv
namespace Go.Proofs.Ytnfaiaoipeholaa
section
variable {s c t : ByteArray} {h m : Nat}
theorem startN (g : Gram s) : cN (bt s (0 : Nat)) = true := (g.rule 0 g.pos (by simp [begB])).1
theorem startF (g : Gram s) : isF s 0 = true := by unfold isF; rw [startN g]; simp
theorem start_fit (g : Gram s) (l : Nat) : facFit s (nFit s l) (expFit s (nFit s l)) 0 = nFit s l (bt s (0 : Nat) - 65).toNat := by unfold facFit; rw [if_pos (startN g)]
theorem made_ok (hk : (chk s).1 = 0) (hh : 1 ≤ h ∧ h ≤ 9) (hm : 1 ≤ m ∧ m ≤ 5) (hfit : nFit s h (bt s (0 : Nat) - 65).toNat = true) (hlen : (made s c h m).2.length ≤ 2000) :
    ∃ n, whole s (strOfNums (made s c h m).2) 0 = some n ∧ 1 ≤ n ∧ n ≤ h ∧ Good (strOfNums (made s c h m).2) m 0 (strOfNums (made s c h m).2).size := by
  have g := gram_of hk
  have ten := ten_chk hk
  have hsz : (strOfNums (made s c h m).2).size = (made s c h m).2.length := strOfNums_size _
  have hB : Byts (made s c h m).2 := by
    unfold made genF
    rw [if_pos (startN g)]
    obtain ⟨j, j1, j2, j3, _⟩ := g.name 0 (startN g)
    refine Byts.cons (bt_byte s 0) (Byts.cons (by omega) (Byts.app ?_ (Byts.cons (by omega) Byts.nil)))
    rw [show (rl s (bt s (0 : Nat)) + 2).toNat = j + 2 by omega]
    exact genE_byts g ten _ _ _ _ (ten.rule j j2 j3)
  have hA := At.strs hB
  obtain ⟨n, e1, e2, e3⟩ := genF_parse (t := strOfNums (made s c h m).2) g ten hm (genE_parse g ten hm (full s)) (n := (strOfNums (made s c h m).2).size + 1) (l := h) (x := 0) (f := 0) (a := 0) (i := 0) (startF g) (by rw [start_fit g]; exact hfit) (Nat.le_refl _) (full_dep hh.2) hA (by rw [hsz]; show 0 + (made s c h m).2.length ≤ _; omega) (by omega)
  have hl0 : (genF s c m (genE s c m (full s)) h 0 0).2.length = (made s c h m).2.length := rfl
  rw [hl0, Nat.zero_add] at e1 e3
  refine ⟨n, ?_, ?_, e2, by rw [hsz]; exact e3⟩
  · unfold whole
    rw [if_neg (by omega), e1]
    simp only
    rw [if_pos hsz.symm]
  · unfold pF pN at e1
    split at e1
    · cases e1
    have hL : ∀ q : Int, cN q = true → ¬ cL q = true := fun q hq => by
      have hv : 65 ≤ q ∧ q ≤ 90 := by simpa [cN] using hq
      simp [cL]; omega
    rw [if_neg (hL _ (startN g)), if_pos (startN g)] at e1
    split at e1
    · cases e1
    cases hq : pE s (strOfNums (made s c h m).2) 0 ((strOfNums (made s c h m).2).size + 1) (rl s (bt s (0 : Nat)) + 2).toNat (0 + 1 + 1) with
    | none => rw [hq] at e1; cases e1
    | some q =>
      obtain ⟨a, k⟩ := q
      rw [hq] at e1
      simp only at e1
      split at e1
      · simp only [Option.some.injEq, Prod.mk.injEq] at e1; omega
      · cases e1
theorem told_ok (hk : (chk s).1 = 0) (hh : 1 ≤ h ∧ h ≤ 9) (hm : 1 ≤ m ∧ m ≤ 5) {n : Nat} (hw : whole s t 0 = some n) (hn : n ≤ h) (hG : Good t m 0 t.size) :
    rcl s t h m = (strOfNums (told s t h m), 0) ∧ mk s (strOfNums (told s t h m)) h m = (t, 0) := by
  have g := gram_of hk
  have ten := ten_chk hk
  have hgt0 : hgt s t = ((n : Int), 0) := by unfold hgt; rw [if_neg (by simp [hk]), hw]
  have hmx := (mx_le t (most := (m : Int)) (by omega)).2 hG
  obtain ⟨ht, hp⟩ : t.size ≤ 2000 ∧ pF s t 0 (pE s t 0 (t.size + 1)) 0 0 = some (t.size, n) := by
    unfold whole at hw
    split at hw
    · cases hw
    · refine ⟨by omega, ?_⟩
      cases hq : pF s t 0 (pE s t 0 (t.size + 1)) 0 0 with
      | none => rw [hq] at hw; cases hw
      | some q =>
        obtain ⟨j, k⟩ := q
        rw [hq] at hw
        simp only at hw
        split at hw
        · rename_i hj
          simp only [Option.some.injEq] at hw
          rw [hj, hw]
        · cases hw
  have hD : Dgs (told s t h m) t.size := dF_dgs (l := h) (by omega) (fun l x i j h e hG => dE_dgs (by omega) _ l x i j h e hG) (startF g) hp hG
  have hBy : Byts (told s t h m) := fun x hx => by have := hD.2 x hx; omega
  have hfit : nFit s h (bt s (0 : Nat) - 65).toNat = true := by
    have := pF_fit (fun x i j h l => pE_fit _ x i j h l) hp hn
    rw [start_fit g] at this; exact this
  have hmade : made s (strOfNums (told s t h m)) h m = (0 + (told s t h m).length, seg t 0 t.size) := genF_back g ten hm (genE_back g ten hm (full s)) (x := 0) (startF g) hp hn hh.2 (Nat.le_refl _) (full_dep hh.2) hG (At.strs hBy)
  refine ⟨?_, ?_⟩
  · unfold rcl
    rw [hgt0, if_neg (by simp), if_neg (by omega), if_neg (by show ¬ ((h : Int) < (n : Int) ∨ _); omega)]
    simp only [Int.toNat_natCast]
  · unfold mk mkR
    rw [if_neg (by simp [hk]), if_neg (by rw [strOfNums_size, digs_of hD]; have := hD.1; simp; omega), if_neg (by omega)]
    simp only [Int.toNat_natCast]
    rw [if_neg (by rw [hfit]; decide), hmade, if_neg (by show ¬ 2000 < (seg t 0 t.size).length; unfold seg; rw [segF_len]; omega)]
    show (strOfNums (seg t 0 t.size), _) = _
    rw [strs_seg]
/-- Recalled, as the document means it -/
theorem recalled_ok {h m : Nat} (hh : 1 ≤ h ∧ h ≤ 9) (hm : 1 ≤ m ∧ m ≤ 5) (e : (mk s c h m).2 = 0) :
    (∃ n : Nat, hgt s (mk s c h m).1 = ((n : Int), 0) ∧ 1 ≤ n ∧ n ≤ h) ∧ (rcl s (mk s c h m).1 h m).2 = 0 ∧ mk s (rcl s (mk s c h m).1 h m).1 h m = ((mk s c h m).1, 0) ∧ (rcl s (mk s c h m).1 9 5).2 = 0 ∧ mk s (rcl s (mk s c h m).1 9 5).1 9 5 = ((mk s c h m).1, 0) := by
  have hk : (chk s).1 = 0 := by
    by_cases hk : (chk s).1 = 0
    · exact hk
    · unfold mk at e; rw [if_pos hk] at e; exact absurd e hk
  have e1 : mk s c h m = mkR s c h m := by unfold mk; rw [if_neg (by simp [hk])]
  rw [e1] at e ⊢
  have hmk := e
  unfold mkR at hmk
  split at hmk
  · cases hmk
  rename_i hc
  split at hmk
  · cases hmk
  rename_i hr
  simp only [Int.toNat_natCast] at hmk
  split at hmk
  · cases hmk
  rename_i hfit
  split at hmk
  · cases hmk
  rename_i hbig
  have ht : (mkR s c h m).1 = strOfNums (made s c h m).2 := by
    unfold mkR
    rw [if_neg hc, if_neg hr]
    simp only [Int.toNat_natCast]
    rw [if_neg hfit, if_neg hbig]
  rw [ht]
  obtain ⟨n, w1, w2, w3, w4⟩ := made_ok (c := c) hk hh hm (by simpa using hfit) (by omega)
  generalize strOfNums (made s c h m).2 = t at *
  obtain ⟨a1, a2⟩ := told_ok hk hh hm w1 w3 w4
  obtain ⟨b1, b2⟩ := told_ok (h := 9) (m := 5) hk (by omega) (by omega) w1 (by omega) (fun p p1 p2 p3 => by have := w4 p p1 p2 p3; omega)
  have hc9 : ((9 : Nat) : Int) = 9 := rfl
  have hc5 : ((5 : Nat) : Int) = 5 := rfl
  rw [hc9, hc5] at b1 b2
  refine ⟨⟨n, by unfold hgt; rw [if_neg (by simp [hk]), w1], w2, w3⟩, by rw [a1], by rw [a1]; exact a2, by rw [b1], by rw [b1]; exact b2⟩
/-- where there is none it is refused as it must be -/
theorem refused_ok {h m : Nat} (hh : 1 ≤ h ∧ h ≤ 9) (hm : 1 ≤ m ∧ m ≤ 5) (hc : c.size ≤ 2000) (hd : digs c = true) (e : (mk s c h m).2 ≠ 0) : (mk s c h m).1 = ⟨#[]⟩ ∧ ((chk s).1 = (mk s c h m).2 ∨ (chk s).1 = 0 ∧ ((mk s c h m).2 = 10 ∨ (mk s c h m).2 = 11)) := by
  unfold mk at e ⊢
  split
  · exact ⟨rfl, .inl rfl⟩
  · rename_i hk
    rw [if_neg hk] at e
    have hk' : (chk s).1 = 0 := by omega
    unfold mkR at e ⊢
    rw [if_neg (by simp [hd]; omega), if_neg (by omega)] at e ⊢
    split
    · exact ⟨rfl, .inr ⟨hk', .inl rfl⟩⟩
    · rename_i h1
      rw [if_neg h1] at e
      split
      · exact ⟨rfl, .inr ⟨hk', .inr rfl⟩⟩
      · rename_i h2
        rw [if_neg h2] at e
        exact absurd rfl e
end
end Go.Proofs.Ytnfaiaoipeholaa
