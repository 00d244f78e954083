/- The program's recaller: factors, expressions. -/
import Derived.Test.YtnfaiaoipeholaaPRec
namespace Go.Proofs.Ytnfaiaoipeholaa
open Go.RowKit
section
variable {b : Nat} {s t : ByteArray} {m : Nat} {P : Nat → Int}

set_option maxHeartbeats 1000000 in
theorem recallFactor_any (v : Ev s t m P) (ht : t.size ≤ 2000) (hgd : Good t m 0 t.size) {n : Nat} (hE : SaidQ b s t m P n) (q lq : Int) (f l i j h : Nat) (D : List Int) (w : World) (hk : Mk w b s t m P i D) (hq : q = f) (hl : lq = l) (hl9 : l ≤ 9) (hf : isF s f = true)
    (hp : pF s t 0 (pE s t 0 n) f i = some (j, h)) (hhl : h ≤ l) (hD : D.length ≤ i) :
    Calls Try.prog 34 #[.pointer (some ⟨b, 0, none⟩), .int .i64 q, .int .i64 lq] w fun e w' => OutQ b s t m P w j (D ++ dF s t m (pE s t 0 n) (dE s t m n) l f i) e w' := by
  subst hq hl
  have hs := v.gram.small
  have hs' : s.size ≤ maxLen := by unfold maxLen; omega
  have hfl := isF_lt hf
  have c0 := hk.gd.gram
  have c29 := hk.tak
  have f29 := hk.tkf
  have HK := hide (hk.take (i + 1))
  have HB : Hid (∀ u : Value, Below b w (w.setCell ⟨b, 29, none⟩ u)) := hide (fun u => (Below.refl _ _).setCell (p := ⟨b, 29, none⟩) (Nat.le_refl _) u)
  have hnz : bt s f ≠ 0 := by intro e; rw [isF, e] at hf; exact absurd hf (by decide)
  have hp0 := hp
  unfold pF at hp
  split at hp
  · cases hp
  rename_i hbt
  have hbt' : bt t i = bt s f := by omega
  have hit : i < t.size := bt_lt (by omega)
  clear hbt
  cases h2 : cN (bt s f)
  · cases h3 : cO (bt s f)
    · have hL : cL (bt s f) = true := by simpa [isF, h2, h3] using hf
      rw [if_pos hL] at hp
      simp only [Option.some.injEq, Prod.mk.injEq] at hp
      have hR : dF s t m (pE s t 0 n) (dE s t m n) l f i = [] := by unfold dF; rw [if_neg (by simp [h2]), if_neg (by simp [h3])]
      rw [hR, List.append_nil, ← hp.1]
      have h2' := hide h2; have h3' := hide h3
      clear h2 h3 hR hp hp0 hk hL hf hbt' hgd
      go_enter Try.func34, Try.ntmps34
      go_wp2_with (first
        | (go_at_call 52; refine (at_any _ _ _ hs').mono ?_; rintro e w' ⟨rfl, hw⟩; replace hw := hw.symm; subst hw)
        | (go_at_call 51; refine (isName_any _ _).mono ?_; rw [unhide h2']; rintro e w' ⟨rfl, hw⟩; replace hw := hw.symm; subst hw)
        | (go_at_call 55; refine (isOpening_any _ _).mono ?_; rw [unhide h3']; rintro e w' ⟨rfl, hw⟩; replace hw := hw.symm; subst hw))
      go_end0
      exact ⟨rfl, unhide HK, unhide HB _, by omega⟩
    · have hL : cL (bt s f) = false := by have := cO_vals h3; simp [cL]; omega
      rw [if_neg (by simp [hL]), if_neg (by simp [h2])] at hp
      have hR : dF s t m (pE s t 0 n) (dE s t m n) l f i = dB s t m (pE s t 0 n) (dE s t m n) l f (i + 1) := by unfold dF; rw [if_neg (by simp [h2]), if_pos h3]
      rw [hR]
      have hmx := hgd i (Nat.zero_le _) hit (by rw [hbt']; exact h3)
      have h2' := hide h2; have h3' := hide h3; have HF := hide hf; have HP := hide hp; have HMX := hide hmx
      generalize hZ : D ++ dB s t m (pE s t 0 n) (dE s t m n) l f (i + 1) = Z
      have HZ := hide hZ
      clear h2 h3 hR hp hp0 hk hL hf hbt' hgd hmx hZ
      go_enter Try.func34, Try.ntmps34
      go_wp2_with (first
        | (go_at_call 52; refine (at_any _ _ _ hs').mono ?_; rintro e w' ⟨rfl, hw⟩; replace hw := hw.symm; subst hw)
        | (go_at_call 51; refine (isName_any _ _).mono ?_; rw [unhide h2']; rintro e w' ⟨rfl, hw⟩; replace hw := hw.symm; subst hw)
        | (go_at_call 55; refine (isOpening_any _ _).mono ?_; rw [unhide h3']; rintro e w' ⟨rfl, hw⟩; replace hw := hw.symm; subst hw)
        | (go_at_call 60; refine (recallBracket_any v ht hE _ _ f l i j h D _ (unhide HK) rfl rfl hl9 (unhide HF) (unhide h3') (unhide HP) hhl (unhide HMX) hD hit).mono ?_; rw [unhide HZ]; rintro e w2 ⟨rfl, hk2, hb2, hD2⟩; replace hk2 := hide hk2; replace hb2 := hide hb2))
      go_end0
      exact ⟨rfl, unhide hk2, (unhide HB _).trans (unhide hb2), hD2⟩
  · have hL : cL (bt s f) = false := by
      have hv : 65 ≤ bt s f ∧ bt s f ≤ 90 := by simpa [cN] using h2
      simp [cL]; omega
    have h3 : cO (bt s f) = false := by
      have hv : 65 ≤ bt s f ∧ bt s f ≤ 90 := by simpa [cN] using h2
      cases e : cO (bt s f)
      · rfl
      · have := cO_vals e; omega
    rw [if_neg (by simp [hL]), if_pos h2] at hp
    unfold pN at hp
    split at hp
    · cases hp
    cases hq : pE s t 0 n (rl s (bt s f) + 2).toNat (i + 1 + 1) with
    | none => rw [hq] at hp; cases hp
    | some q =>
      obtain ⟨a, k⟩ := q
      rw [hq] at hp
      simp only at hp
      split at hp
      case isFalse => cases hp
      rename_i h41
      simp only [Option.some.injEq, Prod.mk.injEq] at hp
      obtain ⟨hp1, hp2⟩ := hp
      subst hp1
      have hR : dF s t m (pE s t 0 n) (dE s t m n) l f i = dE s t m n (l - 1) (rl s (bt s f) + 2).toNat (i + 2) := by unfold dF; rw [if_pos h2]
      rw [hR]
      generalize hZ : D ++ dE s t m n (l - 1) (rl s (bt s f) + 2).toNat (i + 2) = Z
      have HZ := hide hZ
      have h2' := hide h2; have h3' := hide h3; have HQ := hide hq; have H41 := hide h41
      clear h2 h3 hR hp0 hk hL hf hbt' hgd hZ hq h41
      go_enter Try.func34, Try.ntmps34
      go_wp2_with (first
        | (go_at_call 52; refine (at_any _ _ _ hs').mono ?_; rintro e w' ⟨rfl, hw⟩; replace hw := hw.symm; subst hw)
        | (go_at_call 51; refine (isName_any _ _).mono ?_; rw [unhide h2']; rintro e w' ⟨rfl, hw⟩; replace hw := hw.symm; subst hw)
        | (go_at_call 55; refine (isOpening_any _ _).mono ?_; rw [unhide h3']; rintro e w' ⟨rfl, hw⟩; replace hw := hw.symm; subst hw)
        | (go_at_call 59; refine (recallName_any v ht hE _ f l i a k D _ (unhide HK) rfl hl9 (unhide h2') (unhide HQ) (unhide H41) (by omega) hD).mono ?_; rw [unhide HZ]; rintro e w2 ⟨rfl, hk2, hb2, hD2⟩; replace hk2 := hide hk2; replace hb2 := hide hb2))
      go_end0
      exact ⟨rfl, unhide hk2, (unhide HB _).trans (unhide hb2), hD2⟩

theorem wayIx_eq (v : Ev s t m P) {l : Nat} (hl : l ≤ 9) (x k : Nat) : wayK s (nmP P (l : Nat)) x k = wayIx s l x k := by
  unfold wayK wayIx; rw [filter_eq v hl]

end
end Go.Proofs.Ytnfaiaoipeholaa
