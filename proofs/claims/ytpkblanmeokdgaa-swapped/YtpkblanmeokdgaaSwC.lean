/- Names are only names: trees that are read, the choices that are told. No Go here. -/
import Derived.Test.YtpkblanmeokdgaaSwB
namespace Go.Proofs.Ytpkblanmeokdgaa
section
variable {a b : Int} {s s' t t' : ByteArray}
theorem cN_cC' (c : Int) : cN (cC c) = false := by rcases cC_vals c with h | h | h | h | h <;> rw [h] <;> rfl
theorem Sw.pEl_ (ht : Sw a b t t') (rec : Nat → Option (Nat × Nat)) {c : Int} (hc : cN c = false) (many : Bool) (most : Int) : ∀ m i top cnt, pEl t' rec c many most m i top cnt = pEl t rec c many most m i top cnt
  | 0, i, top, cnt => rfl
  | m + 1, i, top, cnt => by
    unfold pEl
    simp only [ht.eq _ hc, ht.eq _ (k := 44) rfl, ht.pEl_ rec hc many most m]
theorem Sw.pB_ (h : Sw a b s s') (ht : Sw a b t t') (most : Int) (rec : Nat → Nat → Option (Nat × Nat)) (f i : Nat) : pB s' t' most rec f i = pB s t most rec f i := by
  unfold pB
  rw [h.cC_, ht.sz]
  simp only [h.eq f (k := 91) rfl, h.eq f (k := 123) rfl, h.eq f (k := 60) rfl, ht.eq _ (cN_cC' _), ht.pEl_ _ (cN_cC' _)]
theorem Sw.pN_ (h : Sw a b s s') (ht : Sw a b t t') (rec : Nat → Nat → Option (Nat × Nat)) (f i : Nat) : pN s' t' rec f i = pN s t rec f i := by
  unfold pN
  rw [h.rlb]
  simp only [ne_eq, ht.eq _ (k := 40) rfl, ht.eq _ (k := 41) rfl]
theorem Sw.pF_ (h : Sw a b s s') (ht : Sw a b t t') (most : Int) (rec : Nat → Nat → Option (Nat × Nat)) (f i : Nat) : pF s' t' most rec f i = pF s t most rec f i := by
  unfold pF
  rw [h.cL_, h.cN_, h.pN_ ht, h.pB_ ht]
  have e : (bt t' i = bt s' f) = (bt t i = bt s f) := by rw [ht.at_, h.at_]; exact propext sw_inj
  simp only [ne_eq, e]
theorem Sw.dg_ (ht : Sw a b t t') {i : Int} (h : cD (bt t i) = true) : bt t' i = bt t i := by
  rw [ht.at_]
  refine sw_of _ ?_ ht.nn
  simp [cD] at h
  simp [cN]; omega
theorem Sw.pE_ (h : Sw a b s s') (ht : Sw a b t t') (most : Int) : ∀ n, pE s' t' most n = pE s t most n
  | 0 => rfl
  | n + 1 => funext fun x => funext fun i => by
    unfold pE
    rw [ht.cD_, h.pE_ ht most n]
    split
    · rename_i hc
      rw [ht.dg_ hc, h.ap_]
      rw [show pF s' t' most (pE s t most n) = pF s t most (pE s t most n) from funext fun f => funext fun i => h.pF_ ht most _ f i]
      simp only [h.fe_]
    · rfl
theorem Sw.whole_ (h : Sw a b s s') (ht : Sw a b t t') (most : Int) : whole s' t' most = whole s t most := by
  unfold whole
  rw [ht.sz, h.pE_ ht, h.pF_ ht]
theorem Sw.hgt_ (h : Sw a b s s') (ht : Sw a b t t') : hgt s' t' = hgt s t := by unfold hgt; rw [h.chk_, h.whole_ ht]
theorem Sw.elF_ (ht : Sw a b t t') : ∀ n i d c, elF t' n i d c = elF t n i d c
  | 0, i, d, c => rfl
  | n + 1, i, d, c => by
    unfold elF
    simp only [ht.dpt_, ht.eq _ (k := 44) rfl, ht.elF_ n]
theorem Sw.els_ (ht : Sw a b t t') (p : Nat) : els t' p = els t p := by unfold els elD; rw [ht.cX_, ht.sz, ht.elF_]
theorem Sw.mxF_ (ht : Sw a b t t') : ∀ n i r, mxF t' n i r = mxF t n i r
  | 0, i, r => rfl
  | n + 1, i, r => by unfold mxF; rw [ht.cO_, ht.els_, ht.mxF_ n]
theorem Sw.mx_ (ht : Sw a b t t') : mx t' = mx t := by unfold mx; rw [ht.sz, ht.mxF_]
theorem Sw.nEl_ (ht : Sw a b t t') (rec : Nat → Option (Nat × Nat)) {c : Int} (hc : cN c = false) : ∀ m i, nEl t' rec c m i = nEl t rec c m i
  | 0, i => rfl
  | m + 1, i => by unfold nEl; simp only [ht.eq _ hc, ht.nEl_ rec hc m]
theorem Sw.nB_ (h : Sw a b s s') (ht : Sw a b t t') (rec : Nat → Nat → Option (Nat × Nat)) (f i : Nat) : nB s' t' rec f i = nB s t rec f i := by
  unfold nB
  rw [h.cC_, ht.sz]
  simp only [h.eq f (k := 91) rfl, h.eq f (k := 123) rfl, ht.eq _ (cN_cC' _), ht.nEl_ _ (cN_cC' _)]
theorem Sw.dEl_ (ht : Sw a b t t') (rec : Nat → Option (Nat × Nat)) (dr : Nat → List Int) {c : Int} (hc : cN c = false) : ∀ m i, dEl t' rec dr c m i = dEl t rec dr c m i
  | 0, i => rfl
  | m + 1, i => by unfold dEl; simp only [ht.eq _ hc, ht.dEl_ rec dr hc m]
theorem Sw.dB_ (h : Sw a b s s') (ht : Sw a b t t') (m : Nat) (rec : Nat → Nat → Option (Nat × Nat)) (dr : Nat → Nat → Nat → List Int) (l f i : Nat) : dB s' t' m rec dr l f i = dB s t m rec dr l f i := by
  unfold dB
  rw [h.cnt_, h.nB_ ht, h.few_, h.cC_, ht.sz]
  simp only [h.eq f (k := 91) rfl, h.eq f (k := 123) rfl, ht.eq _ (cN_cC' _), ht.dEl_ _ _ (cN_cC' _)]
theorem Sw.dF_ (h : Sw a b s s') (ht : Sw a b t t') (m : Nat) (rec : Nat → Nat → Option (Nat × Nat)) (dr : Nat → Nat → Nat → List Int) (l f i : Nat) : dF s' t' m rec dr l f i = dF s t m rec dr l f i := by
  unfold dF
  rw [h.cN_, h.cO_, h.rlb, h.dB_ ht]
theorem Sw.wayIx_ (h : Sw a b s s') (l x k : Nat) : wayIx s' l x k = wayIx s l x k := by
  unfold wayIx
  rw [h.sts_, show expFit s' (nFit s' l) = expFit s (nFit s l) from funext fun x => h.expFit_ (h.nFit_ l) x]
  simp only [h.altFit_ (h.nFit_ l), h.fe_]
theorem dFs_same {g : Nat → Nat → Option (Nat × Nat)} {dg dg' : Nat → Nat → List Int} : ∀ (L : List Nat) (i top : Nat) (r : Nat × Nat), pFs g L i top = some r → (∀ f, ∀ i j k, g f i = some (j, k) → dg' f i = dg f i) → dFs g dg' L i = dFs g dg L i
  | [], i, top, r, _, _ => rfl
  | f :: L, i, top, r, e, hg => by
    unfold pFs at e
    unfold dFs
    cases hq : g f i with
    | none => rw [hq] at e; cases e
    | some q =>
      obtain ⟨j, k⟩ := q
      rw [hq] at e
      simp only at e ⊢
      rw [hg f i j k hq, dFs_same L j _ r e hg]
theorem dEl_same {rec : Nat → Option (Nat × Nat)} {dr dr' : Nat → List Int} {c : Int} {many : Bool} {most : Int} (hg : ∀ i j k, rec i = some (j, k) → dr' i = dr i) : ∀ (m i top : Nat) (cn : Int) (r : Nat × Nat), pEl t rec c many most m i top cn = some r → dEl t rec dr' c m i = dEl t rec dr c m i
  | 0, i, top, cn, r, _ => rfl
  | m + 1, i, top, cn, r, e => by
    unfold pEl at e
    unfold dEl
    cases hq : rec i with
    | none => rw [hq] at e; cases e
    | some q =>
      obtain ⟨j, k⟩ := q
      rw [hq] at e
      simp only at e ⊢
      rw [hg i j k hq]
      split at e
      · cases e
      · split at e
        · rename_i hb; rw [if_pos hb, if_pos hb]
        · rename_i hb
          rw [if_neg hb, if_neg hb]
          split at e
          · rw [dEl_same hg m _ _ _ r e]
          · cases e
theorem dF_same {m : Nat} {rec : Nat → Nat → Option (Nat × Nat)} {dr dr' : Nat → Nat → Nat → List Int} (hg : ∀ l x i j k, rec x i = some (j, k) → dr' l x i = dr l x i) {l f i : Nat} {r : Nat × Nat} (e : pF s t 0 rec f i = some r) : dF s t m rec dr' l f i = dF s t m rec dr l f i := by
  unfold pF at e
  unfold dF
  split at e
  · cases e
  split at e
  · rename_i hc
    have h1 : ¬ cN (bt s f) = true := fun h => by rw [cN_cL h] at hc; cases hc
    rw [if_neg h1, if_neg h1]
    have h2 : ¬ cO (bt s f) = true := fun h => by
      simp [cL] at hc
      unfold cO cC at h
      rw [if_neg (by omega), if_neg (by omega)] at h
      by_cases h3 : bt s f = 123
      · omega
      · rw [if_neg h3, if_neg (by omega)] at h; cases h
    rw [if_neg h2, if_neg h2]
  · split at e
    · rename_i hc
      rw [if_pos hc, if_pos hc]
      unfold pN at e
      split at e
      · cases e
      · cases hq : rec (rl s (bt s f) + 2).toNat (i + 1 + 1) with
        | none => rw [hq] at e; cases e
        | some q => exact hg _ _ _ q.1 q.2 hq
    · rename_i hc
      rw [if_neg hc, if_neg hc]
      split
      · unfold pB at e
        unfold dB
        split at e
        · rename_i hb; rw [if_pos hb, if_pos hb]
        · rename_i hb
          rw [if_neg hb, if_neg hb, dEl_same (hg l (f + 1)) _ _ _ _ _ e]
      · rfl
theorem Sw.dE_ (h : Sw a b s s') (ht : Sw a b t t') (m : Nat) : ∀ n l x i j k, pE s t 0 n x i = some (j, k) → dE s' t' m n l x i = dE s t m n l x i
  | 0, l, x, i, j, k, _ => rfl
  | n + 1, l, x, i, j, k, e => by
    unfold pE at e
    unfold dE
    split at e
    · rename_i hc
      rw [ht.dg_ hc, h.fitL_, h.wayIx_, h.ap_]
      cases hq : ap s (bt t i - 48).toNat x with
      | none => rfl
      | some y =>
        rw [hq] at e
        simp only at e ⊢
        rw [h.pE_ ht, h.fe_]
        rw [show pF s' t' 0 (pE s t 0 n) = pF s t 0 (pE s t 0 n) from funext fun f => funext fun i => h.pF_ ht 0 _ f i]
        rw [dFs_same (dg' := dF s' t' m (pE s t 0 n) (dE s' t' m n) l) (dg := dF s t m (pE s t 0 n) (dE s t m n) l) _ _ _ _ e (fun f i j k ef => by
          rw [h.dF_ ht]
          exact dF_same (fun l x i j k ex => h.dE_ ht m n l x i j k ex) ef)]
    · cases e
theorem Sw.told_ (h : Sw a b s s') (ht : Sw a b t t') (hh m : Nat) {n : Nat} (hw : whole s t 0 = some n) : told s' t' hh m = told s t hh m := by
  unfold whole at hw
  split at hw
  · cases hw
  cases hq : pF s t 0 (pE s t 0 (t.size + 1)) 0 0 with
  | none => rw [hq] at hw; cases hw
  | some q =>
    unfold told
    rw [ht.sz, h.pE_ ht, h.dF_ ht]
    exact dF_same (fun l x i j k ex => h.dE_ ht m _ l x i j k ex) hq
theorem Sw.rcl_ (h : Sw a b s s') (ht : Sw a b t t') (hh m : Int) : rcl s' t' hh m = rcl s t hh m := by
  unfold rcl
  rw [h.hgt_ ht, ht.mx_]
  by_cases h0 : (hgt s t).2 = 0
  · have : ∃ n, whole s t 0 = some n := by
      unfold hgt at h0
      split at h0
      · rename_i h1; exact absurd h0 h1
      · cases hw : whole s t 0 with
        | none => rw [hw] at h0; cases h0
        | some n => exact ⟨n, rfl⟩
    obtain ⟨n, hw⟩ := this
    rw [h.told_ ht _ _ hw]
  · simp only [ne_eq, h0, not_false_eq_true, if_true]
end
end Go.Proofs.Ytpkblanmeokdgaa
