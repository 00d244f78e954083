/- A tree of a grammar fits where it is low enough; its longest list; its choices. No Go here. -/
import Derived.Test.YtnfaiaoipeholaaRecMath
import Derived.Test.YtnfaiaoipeholaaMakeMath
namespace Go.Proofs.Ytnfaiaoipeholaa

theorem pFs_parts {g : Nat → Nat → Option (Nat × Nat)} : ∀ (L : List Nat) (i top j h : Nat), pFs g L i top = some (j, h) → top ≤ h ∧ ∀ f ∈ L, ∃ i' j' h', g f i' = some (j', h') ∧ h' ≤ h
  | [], i, top, j, h, e => by
    simp only [pFs, Option.some.injEq, Prod.mk.injEq] at e
    exact ⟨by omega, fun f hf => by cases hf⟩
  | f :: L, i, top, j, h, e => by
    unfold pFs at e
    cases hq : g f i with
    | none => rw [hq] at e; cases e
    | some q =>
      obtain ⟨a, k⟩ := q
      rw [hq] at e
      obtain ⟨h1, h2⟩ := pFs_parts L a (max top k) j h e
      refine ⟨by omega, fun f' hf' => ?_⟩
      rcases List.mem_cons.1 hf' with rfl | hm
      · exact ⟨i, a, k, hq, by omega⟩
      · exact h2 f' hm
theorem pEl_first {t : ByteArray} {rec : Nat → Option (Nat × Nat)} {b : Int} {many : Bool} {most : Int} : ∀ m i top cnt j h, pEl t rec b many most m i top cnt = some (j, h) → top ≤ h ∧ ∃ j' h', rec i = some (j', h') ∧ h' ≤ h
  | 0, i, top, cnt, j, h, e => by cases e
  | m + 1, i, top, cnt, j, h, e => by
    unfold pEl at e
    cases hq : rec i with
    | none => rw [hq] at e; cases e
    | some q =>
      obtain ⟨a, k⟩ := q
      rw [hq] at e
      simp only at e
      split at e
      · cases e
      split at e
      · simp only [Option.some.injEq, Prod.mk.injEq] at e
        exact ⟨by omega, a, k, rfl, by omega⟩
      split at e
      · have := (pEl_first m (a + 1) (max top k) (cnt + 1) j h e).1
        exact ⟨by omega, a, k, rfl, by omega⟩
      · cases e
section
variable {s t : ByteArray} {most : Int}
/-- what is read of a factor fits, where it is low enough -/
theorem pF_fit {n : Nat} (hE : ∀ x i j h l, pE s t most n x i = some (j, h) → h ≤ l → expFit s (nFit s l) x = true) {f i j h l : Nat} (e : pF s t most (pE s t most n) f i = some (j, h)) (hl : h ≤ l) : facFit s (nFit s l) (expFit s (nFit s l)) f = true := by
  unfold pF at e
  split at e
  · cases e
  split at e
  · rename_i hL
    unfold facFit
    have hv : 97 ≤ bt s f ∧ bt s f ≤ 122 := by simpa [cL] using hL
    rw [if_neg (by simp [cN]; omega), if_neg (by omega)]
  split at e
  · rename_i hN
    unfold facFit
    rw [if_pos hN]
    have hv : 65 ≤ bt s f ∧ bt s f ≤ 90 := by simpa [cN] using hN
    unfold pN at e
    split at e
    · cases e
    cases hq : pE s t most n (rl s (bt s f) + 2).toNat (i + 1 + 1) with
    | none => rw [hq] at e; cases e
    | some q =>
      obtain ⟨a, k⟩ := q
      rw [hq] at e
      simp only at e
      split at e
      · simp only [Option.some.injEq, Prod.mk.injEq] at e
        obtain ⟨l', rfl⟩ : ∃ l', l = l' + 1 := ⟨l - 1, by omega⟩
        show expFit s (nFit s l') (rl s (65 + (bt s f - 65).toNat : Nat) + 2).toNat = true
        rw [show ((65 + (bt s f - 65).toNat : Nat) : Int) = bt s f by omega]
        exact hE _ _ _ _ l' hq (by omega)
      · cases e
  · rename_i hN
    unfold facFit
    rw [if_neg hN]
    split
    · rename_i hk
      unfold pB at e
      rw [if_neg (by omega)] at e
      obtain ⟨_, j', h', h1, h2⟩ := pEl_first _ _ _ _ _ _ e
      exact hE _ _ _ _ l h1 (by omega)
    · rfl
theorem pE_fit : ∀ n x i j h l, pE s t most n x i = some (j, h) → h ≤ l → expFit s (nFit s l) x = true
  | 0, x, i, j, h, l, e, _ => by cases e
  | n + 1, x, i, j, h, l, e, hl => by
    unfold pE at e
    split at e
    · cases hq : ap s (bt t i - 48).toNat x with
      | none => rw [hq] at e; cases e
      | some a =>
        rw [hq] at e
        obtain ⟨_, h2⟩ := pFs_parts _ _ _ _ _ e
        rw [expFit_step, List.any_eq_true]
        refine ⟨a, ?_, ?_⟩
        · rw [sts_ap] at hq; exact List.mem_of_getElem? hq
        · unfold altFit
          rw [List.all_eq_true]
          intro f hf
          obtain ⟨i', j', h', g1, g2⟩ := h2 f hf
          exact pF_fit (fun x i j h l => pE_fit n x i j h l) g1 (by omega)
    · cases e
/-- the parts of what is read of an expression -/
theorem pE_parts {n x i j h : Nat} (e : pE s t most (n + 1) x i = some (j, h)) : ∃ k a : Nat, bt t i = 48 + (k : Int) ∧ k ≤ 9 ∧ ap s k x = some a ∧ pFs (pF s t most (pE s t most n)) (fe s a).1 (i + 1) 0 = some (j, h) := by
  unfold pE at e
  split at e
  · rename_i hD
    have hv : 48 ≤ bt t i ∧ bt t i ≤ 57 := by simpa [cD] using hD
    cases hq : ap s (bt t i - 48).toNat x with
    | none => rw [hq] at e; cases e
    | some a =>
      rw [hq] at e
      exact ⟨(bt t i - 48).toNat, a, by omega, by omega, hq, e⟩
  · cases e
theorem pE_mem {n x i j h l k a : Nat} (hk : ap s k x = some a) (e : pFs (pF s t most (pE s t most n)) (fe s a).1 (i + 1) 0 = some (j, h)) (hl : h ≤ l) : k < (sts s x).length ∧ altFit s (nFit s l) (expFit s (nFit s l)) (fe s a).1 = true := by
  have hk' := hk
  rw [sts_ap] at hk'
  refine ⟨(List.getElem?_eq_some_iff.1 hk').1, ?_⟩
  obtain ⟨_, h2⟩ := pFs_parts _ _ _ _ _ e
  unfold altFit
  rw [List.all_eq_true]
  intro f hf
  obtain ⟨i', j', h', g1, g2⟩ := h2 f hf
  exact pF_fit (fun x i j h l => pE_fit n x i j h l) g1 (by omega)

/-- with a bound on lists -/
def Good (t : ByteArray) (most : Int) (i j : Nat) : Prop := ∀ p, i ≤ p → p < j → cO (bt t p) = true → (els t p : Int) ≤ most
def Bad (t : ByteArray) (most : Int) (i j : Nat) : Prop := ∃ p, i ≤ p ∧ p < j ∧ cO (bt t p) = true ∧ most < (els t p : Int)
def Either (t : ByteArray) (most : Int) (i : Nat) (r : Option (Nat × Nat)) (j h : Nat) : Prop := (r = some (j, h) ∧ Good t most i j) ∨ (r = none ∧ Bad t most i j)
theorem Bad.mono {t : ByteArray} {most : Int} {i j i' j' : Nat} (h : Bad t most i j) (h1 : i' ≤ i) (h2 : j ≤ j') : Bad t most i' j' := by
  obtain ⟨p, a, b, c, d⟩ := h; exact ⟨p, by omega, by omega, c, d⟩
theorem Good.join {t : ByteArray} {most : Int} {i j k : Nat} (h : Good t most i j) (g : Good t most j k) : Good t most i k := fun p h1 h2 h3 => by
  by_cases e : p < j
  · exact h p h1 e h3
  · exact g p (by omega) h2 h3
theorem Good.plain {t : ByteArray} {most : Int} {i : Nat} (h : cO (bt t i) = false) : Good t most i (i + 1) := fun p h1 h2 h3 => by
  have : p = i := by omega
  subst this; rw [h] at h3; cases h3
theorem Good.one {t : ByteArray} {most : Int} {i : Nat} (h : (els t i : Int) ≤ most) : Good t most i (i + 1) := fun p h1 h2 _ => by
  have : p = i := by omega
  subst this; exact h
theorem pFs_either {g g' : Nat → Nat → Option (Nat × Nat)} : ∀ (L : List Nat) (i top j h : Nat), (∀ f ∈ L, ∀ i j h, g f i = some (j, h) → i < j ∧ Either t most i (g' f i) j h) → pFs g L i top = some (j, h) → i ≤ j ∧ Either t most i (pFs g' L i top) j h
  | [], i, top, j, h, _, e => by
    have e' := e
    simp only [pFs, Option.some.injEq, Prod.mk.injEq] at e'
    exact ⟨by omega, .inl ⟨e, fun p h1 h2 _ => by omega⟩⟩
  | f :: L, i, top, j, h, hg, e => by
    unfold pFs at e ⊢
    cases hq : g f i with
    | none => rw [hq] at e; cases e
    | some q =>
      obtain ⟨a, k⟩ := q
      rw [hq] at e
      obtain ⟨hlt, h1⟩ := hg f (by simp) i a k hq
      obtain ⟨hle, h2⟩ := pFs_either L a (max top k) j h (fun f' hf' => hg f' (by simp [hf'])) e
      refine ⟨by omega, ?_⟩
      rcases h1 with ⟨e1, g1⟩ | ⟨e1, g1⟩
      · rw [e1]
        rcases h2 with ⟨e2, g2⟩ | ⟨e2, g2⟩
        · exact .inl ⟨e2, g1.join g2⟩
        · exact .inr ⟨e2, g2.mono (by omega) (Nat.le_refl _)⟩
      · rw [e1]
        exact .inr ⟨rfl, g1.mono (Nat.le_refl _) hle⟩
theorem pEl_either {rec rec' : Nat → Option (Nat × Nat)} {b : Int} {many : Bool} (hb : cO b = false) (hm : 0 < most) (hr : ∀ i j h, rec i = some (j, h) → i < j ∧ Either t most i (rec' i) j h) :
    ∀ m i top cnt j h, pEl t rec b many 0 m i top cnt = some (j, h) → i < j ∧ ((pEl t rec' b many most m i top cnt = some (j, h) ∧ cnt + (nEl t rec b m i : Int) ≤ most ∧ Good t most i j) ∨ (pEl t rec' b many most m i top cnt = none ∧ (most < cnt + (nEl t rec b m i : Int) ∨ Bad t most i j)))
  | 0, i, top, cnt, j, h, e => by cases e
  | m + 1, i, top, cnt, j, h, e => by
    unfold pEl at e ⊢
    cases hq : rec i with
    | none => rw [hq] at e; cases e
    | some q =>
      obtain ⟨a, k⟩ := q
      rw [hq] at e
      simp only at e
      have hn : nEl t rec b (m + 1) i = if bt t a = b then 1 else nEl t rec b m (a + 1) + 1 := by simp only [nEl, hq]
      obtain ⟨hlt, h1⟩ := hr i a k hq
      rw [if_neg (by omega)] at e
      rw [hn]
      split at e
      · rename_i hbb
        simp only [Option.some.injEq, Prod.mk.injEq] at e
        obtain ⟨e1, e2⟩ := e
        refine ⟨by omega, ?_⟩
        rw [if_pos hbb]
        rcases h1 with ⟨r1, g1⟩ | ⟨r1, g1⟩
        · rw [r1]
          simp only
          by_cases hc : most < cnt + 1
          · rw [if_pos ⟨hm, hc⟩]
            exact .inr ⟨rfl, .inl (by omega)⟩
          · rw [if_neg (fun hh => hc hh.2), if_pos hbb]
            refine .inl ⟨by rw [e1, e2], by omega, ?_⟩
            rw [← e1]; exact g1.join (Good.plain (by rw [hbb]; exact hb))
        · rw [r1]
          exact .inr ⟨rfl, .inr (g1.mono (Nat.le_refl _) (by omega))⟩
      rename_i hbb
      split at e
      · rename_i hcm
        obtain ⟨hlt2, h2⟩ := pEl_either hb hm hr m (a + 1) (max top k) (cnt + 1) j h e
        refine ⟨by omega, ?_⟩
        rw [if_neg hbb]
        have h44 : cO (bt t a) = false := by rw [hcm.1]; decide
        rcases h1 with ⟨r1, g1⟩ | ⟨r1, g1⟩
        · rw [r1]
          simp only
          by_cases hc : most < cnt + 1
          · rw [if_pos ⟨hm, hc⟩]
            exact .inr ⟨rfl, .inl (by omega)⟩
          · rw [if_neg (fun hh => hc hh.2), if_neg hbb, if_pos hcm]
            rcases h2 with ⟨r2, c2, g2⟩ | ⟨r2, c2⟩
            · exact .inl ⟨r2, by omega, (g1.join (Good.plain h44)).join g2⟩
            · rcases c2 with c2 | c2
              · exact .inr ⟨r2, .inl (by omega)⟩
              · exact .inr ⟨r2, .inr (c2.mono (by omega) (Nat.le_refl _))⟩
        · rw [r1]
          exact .inr ⟨rfl, .inr (g1.mono (Nat.le_refl _) (by omega))⟩
      · cases e
theorem pF_either {n : Nat} (hm : 0 < most) (hr : ∀ x i j h, pE s t 0 n x i = some (j, h) → Either t most i (pE s t most n x i) j h) {f i j h : Nat} (hf : isF s f = true) (e : pF s t 0 (pE s t 0 n) f i = some (j, h)) : i < j ∧ Either t most i (pF s t most (pE s t most n) f i) j h := by
  have hlt := (pF_fwd (most := 0) (fun x i => pE_fwd s t 0 n x i) hf j h e).1
  refine ⟨hlt, ?_⟩
  have e0 := e
  unfold pF at e ⊢
  split at e
  · cases e
  rename_i hbt
  have hbt' : bt t i = bt s f := by omega
  rw [if_neg hbt]
  split at e
  · rename_i hL
    rw [if_pos hL]
    obtain ⟨n1, _, _⟩ := letter_not (c := bt t i) (by rw [hbt', hL]; rfl)
    refine .inl ⟨e, ?_⟩
    simp only [Option.some.injEq, Prod.mk.injEq] at e
    rw [← e.1]; exact Good.plain n1
  rename_i hL
  rw [if_neg hL]
  split at e
  · rename_i hN
    rw [if_pos hN]
    obtain ⟨n1, _, _⟩ := letter_not (c := bt t i) (by rw [hbt', hN]; simp)
    unfold pN at e ⊢
    split at e
    · cases e
    rename_i h40
    rw [if_neg h40]
    cases hq : pE s t 0 n (rl s (bt s f) + 2).toNat (i + 1 + 1) with
    | none => rw [hq] at e; cases e
    | some q =>
      obtain ⟨a, k⟩ := q
      rw [hq] at e
      simp only at e
      split at e
      · rename_i h41
        have hone := els_name (i := i + 1) hq h41
        have hia := (pE_fwd s t 0 n _ _ a k hq).1
        simp only [Option.some.injEq, Prod.mk.injEq] at e
        have h41' : cO (bt t a) = false := by rw [h41]; decide
        rcases hr _ _ _ _ hq with ⟨r1, g1⟩ | ⟨r1, g1⟩
        · rw [r1]
          simp only
          rw [if_pos h41]
          refine .inl ⟨by rw [e.1, e.2], ?_⟩
          rw [← e.1]
          exact (((Good.plain n1).join (Good.one (by rw [hone]; omega))).join g1).join (Good.plain h41')
        · rw [r1]
          exact .inr ⟨rfl, g1.mono (by omega) (by omega)⟩
      · cases e
  · rename_i hN
    rw [if_neg hN]
    have hO : cO (bt s f) = true := by simpa [isF, hL, hN] using hf
    have hne := els_bracket (s := s) (t := t) (most := 0) (n := n) (i := i) hO e
    have hcl : cO (cC (bt s f)) = false := by
      have hx : cX (cC (bt s f)) = true := cX_cC _ (by simpa [cO] using hO)
      exact (close_not hx).2.2.1
    unfold nB at hne
    unfold pB at e ⊢
    split at e
    · rename_i hh
      rw [if_pos hh]
      rw [if_pos hh] at hne
      refine .inl ⟨e, ?_⟩
      simp only [Option.some.injEq, Prod.mk.injEq] at e
      rw [← e.1]
      exact (Good.one (by rw [hne]; omega)).join (Good.plain (by rw [hh.1]; exact hcl))
    · rename_i hh
      rw [if_neg hh]
      rw [if_neg hh] at hne
      obtain ⟨hij, h2⟩ := pEl_either (rec := pE s t 0 n (f + 1)) (rec' := pE s t most n (f + 1)) hcl hm (fun i j h e => ⟨(pE_fwd s t 0 n _ _ j h e).1, hr _ _ _ _ e⟩) _ _ _ _ _ _ e
      rcases h2 with ⟨r2, c2, g2⟩ | ⟨r2, c2⟩
      · exact .inl ⟨r2, (Good.one (by rw [hne]; omega)).join g2⟩
      · refine .inr ⟨r2, ?_⟩
        rcases c2 with c2 | c2
        · exact ⟨i, Nat.le_refl _, by omega, by rw [hbt']; exact hO, by rw [hne]; omega⟩
        · exact c2.mono (by omega) (Nat.le_refl _)
theorem pE_either (hm : 0 < most) : ∀ n x i j h, pE s t 0 n x i = some (j, h) → Either t most i (pE s t most n x i) j h
  | 0, x, i, j, h, e => by cases e
  | n + 1, x, i, j, h, e => by
    obtain ⟨k, a, hk, hk9, ha, hp⟩ := pE_parts e
    obtain ⟨n1, _, _⟩ := letter_not (c := bt t i) (by simp [cL, cN, cD, hk]; omega)
    obtain ⟨hij, h2⟩ := pFs_either (most := most) (g' := pF s t most (pE s t most n)) (fe s a).1 (i + 1) 0 j h (fun f hf i j h e => pF_either hm (fun x i j h e => pE_either hm n x i j h e) (fe_mem hf).1 e) hp
    unfold pE
    rw [if_pos (by simp [cD, hk]; omega), show (bt t i - 48).toNat = k by omega, ha]
    rcases h2 with ⟨r2, g2⟩ | ⟨r2, g2⟩
    · exact .inl ⟨r2, (Good.plain n1).join g2⟩
    · exact .inr ⟨r2, g2.mono (by omega) (Nat.le_refl _)⟩
/-- the whole text -/
theorem whole_most (hm : 0 < most) {h : Nat} (hf : isF s 0 = true) (e : whole s t 0 = some h) : (whole s t most = some h ∧ Good t most 0 t.size) ∨ (whole s t most = none ∧ Bad t most 0 t.size) := by
  unfold whole at e ⊢
  split at e
  · cases e
  rename_i hsz
  rw [if_neg hsz]
  cases hq : pF s t 0 (pE s t 0 (t.size + 1)) 0 0 with
  | none => rw [hq] at e; cases e
  | some q =>
    obtain ⟨j, k⟩ := q
    rw [hq] at e
    simp only at e
    split at e
    · rename_i hj
      obtain ⟨_, h2⟩ := pF_either (most := most) hm (fun x i j h e => pE_either hm _ x i j h e) hf hq
      rcases h2 with ⟨r2, g2⟩ | ⟨r2, g2⟩
      · rw [r2]
        simp only
        rw [if_pos hj]
        exact .inl ⟨e, by rw [← hj]; exact g2⟩
      · rw [r2]
        exact .inr ⟨rfl, by rw [← hj]; exact g2⟩
    · cases e
end
end Go.Proofs.Ytnfaiaoipeholaa
