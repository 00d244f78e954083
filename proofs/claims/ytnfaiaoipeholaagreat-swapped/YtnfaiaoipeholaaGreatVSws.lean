/- Names are only names: two names for one another, the form and the faults. No Go here. -/
import Derived.Test.YtnfaiaoipeholaaGreatMath
import Derived.Test.YtnfaiaoipeholaaGreatVInvD
namespace Go.Proofs.YtnfaiaoipeholaaGreat
/-- the one name for the other -/
def sw (a b c : Int) : Int := if c = a then b else if c = b then a else c
/-- two names -/
structure NN (a b : Int) : Prop where
  ha : 65 ≤ a ∧ a ≤ 90
  hb : 65 ≤ b ∧ b ≤ 90
/-- a text with two names for one another -/
structure Sw (a b : Int) (s s' : ByteArray) : Prop where
  nn : NN a b
  sz : s'.size = s.size
  at_ : ∀ i : Int, bt s' i = sw a b (bt s i)
section
variable {a b : Int}
theorem sw_sw (a b c : Int) : sw a b (sw a b c) = c := by
  unfold sw
  by_cases h1 : c = a
  · rw [if_pos h1]
    by_cases h2 : b = a
    · rw [if_pos h2]; omega
    · rw [if_neg h2, if_pos rfl]; omega
  · rw [if_neg h1]
    by_cases h2 : c = b
    · rw [if_pos h2, if_pos rfl]; omega
    · rw [if_neg h2, if_neg h1, if_neg h2]
theorem sw_inj {c d : Int} : sw a b c = sw a b d ↔ c = d := ⟨fun e => by have := congrArg (sw a b) e; rwa [sw_sw, sw_sw] at this, fun e => by rw [e]⟩
theorem sw_cases (a b c : Int) : (sw a b c = b ∧ c = a) ∨ (sw a b c = a ∧ c = b) ∨ sw a b c = c := by
  unfold sw
  by_cases h1 : c = a
  · rw [if_pos h1]; exact .inl ⟨rfl, h1⟩
  · rw [if_neg h1]
    by_cases h2 : c = b
    · rw [if_pos h2]; exact .inr (.inl ⟨rfl, h2⟩)
    · rw [if_neg h2]; exact .inr (.inr rfl)
theorem sw_cN (n : NN a b) (c : Int) : cN (sw a b c) = cN c := by
  obtain ⟨h1, h2⟩ := n
  rcases sw_cases a b c with ⟨e, f⟩ | ⟨e, f⟩ | e <;> rw [e]
  all_goals (try subst f)
  all_goals simp [cN]
  all_goals (simp [h1, h2])
theorem sw_of (c : Int) (h : cN c = false) (n : NN a b) : sw a b c = c := by
  obtain ⟨h1, h2⟩ := n
  rcases sw_cases a b c with ⟨e, f⟩ | ⟨e, f⟩ | e
  · subst f; simp [cN] at h; omega
  · subst f; simp [cN] at h; omega
  · exact e
theorem sw_eq (n : NN a b) (c : Int) {k : Int} (hk : cN k = false) : sw a b c = k ↔ c = k := by
  rw [← sw_of k hk n, sw_inj, sw_of k hk n]
theorem sw_beq (n : NN a b) (c : Int) {k : Int} (hk : cN k = false) : (sw a b c == k) = (c == k) := by
  rw [Bool.eq_iff_iff]; simp only [beq_iff_eq]; exact sw_eq n c hk
theorem sw_not (n : NN a b) (c : Int) : sw a b c = c ∨ cN c = true ∧ cN (sw a b c) = true := by
  cases h : cN c
  · exact .inl (sw_of c h n)
  · exact .inr ⟨rfl, by rw [sw_cN n, h]⟩
theorem cN_cL {c : Int} (h : cN c = true) : cL c = false := by simp [cN] at h; simp [cL]; omega
theorem cN_cD {c : Int} (h : cN c = true) : cD c = false := by simp [cN] at h; simp [cD]; omega
theorem cN_cC {c : Int} (h : cN c = true) : cC c = 0 := by
  simp [cN] at h; unfold cC
  rw [if_neg (by omega), if_neg (by omega), if_neg (by omega), if_neg (by omega)]
theorem cN_cX {c : Int} (h : cN c = true) : cX c = false := by simp [cN] at h; simp [cX]; omega
theorem sw_cL (n : NN a b) (c : Int) : cL (sw a b c) = cL c := by
  rcases sw_not n c with e | ⟨e, f⟩
  · rw [e]
  · rw [cN_cL e, cN_cL f]
theorem sw_cD (n : NN a b) (c : Int) : cD (sw a b c) = cD c := by
  rcases sw_not n c with e | ⟨e, f⟩
  · rw [e]
  · rw [cN_cD e, cN_cD f]
theorem sw_cC (n : NN a b) (c : Int) : cC (sw a b c) = cC c := by
  rcases sw_not n c with e | ⟨e, f⟩
  · rw [e]
  · rw [cN_cC e, cN_cC f]
theorem sw_cX (n : NN a b) (c : Int) : cX (sw a b c) = cX c := by
  rcases sw_not n c with e | ⟨e, f⟩
  · rw [e]
  · rw [cN_cX e, cN_cX f]
theorem sw_cO (n : NN a b) (c : Int) : cO (sw a b c) = cO c := by unfold cO; rw [sw_cC n]
theorem sw_stp (n : NN a b) (c : Int) (op al : List Int) : stp (sw a b c) op al = stp c op al := by
  rcases sw_not n c with e | ⟨e, f⟩
  · rw [e]
  · unfold stp
    rw [if_pos (by rw [f, Bool.or_true]), if_pos (by rw [e, Bool.or_true])]
theorem sw_mst (n : NN a b) (c x : Int) (op al : List Int) : mst (sw a b c) x op al = mst c x op al := by
  unfold mst
  rw [sw_cN n, sw_stp n c op al]
  simp only [sw_eq n c (k := 61) rfl, sw_eq n c (k := 59) rfl]
section
variable {s s' : ByteArray}
theorem Sw.eq (h : Sw a b s s') (i : Int) {k : Int} (hk : cN k = false) : bt s' i = k ↔ bt s i = k := by rw [h.at_, sw_eq h.nn _ hk]
theorem Sw.beq (h : Sw a b s s') (i : Int) {k : Int} (hk : cN k = false) : (bt s' i == k) = (bt s i == k) := by rw [h.at_, sw_beq h.nn _ hk]
theorem Sw.begB_ (h : Sw a b s s') (i : Int) : begB s' i = begB s i := by unfold begB; rw [h.beq (i - 1) (k := 59) rfl]
theorem Sw.rlF_ (h : Sw a b s s') (c : Int) : ∀ n i, rlF s' (sw a b c) n i = rlF s c n i
  | 0, i => rfl
  | n + 1, i => by
    unfold rlF
    have e : (bt s' i == sw a b c) = (bt s i == c) := by rw [h.at_, Bool.eq_iff_iff]; simp only [beq_iff_eq]; exact sw_inj
    rw [h.begB_, e, h.rlF_ c n (i + 1)]
theorem Sw.rl_ (h : Sw a b s s') (c : Int) : rl s' (sw a b c) = rl s c := by unfold rl; rw [h.sz, h.rlF_]
theorem Sw.rlb (h : Sw a b s s') (i : Int) : rl s' (bt s' i) = rl s (bt s i) := by rw [h.at_, h.rl_]
theorem Sw.twF_ (h : Sw a b s s') : ∀ n i, twF s' n i = twF s n i
  | 0, i => rfl
  | n + 1, i => by unfold twF; rw [h.begB_, h.rlb, h.twF_ n (i + 1)]
theorem Sw.nmF_ (h : Sw a b s s') : ∀ n i, nmF s' n i = nmF s n i
  | 0, i => rfl
  | n + 1, i => by unfold nmF; rw [h.rlb, h.nmF_ n (i + 1), h.at_, sw_cN h.nn]
theorem Sw.fmF_ (h : Sw a b s s') : ∀ n i x op al, fmF s' n i x op al = fmF s n i x op al
  | 0, i, x, op, al => by unfold fmF; rw [h.sz]
  | n + 1, i, x, op, al => by
    unfold fmF
    rw [h.at_, sw_mst h.nn _ _ _ _, h.fmF_ n (i + 1)]
theorem Sw.chk_ (h : Sw a b s s') : chk s' = chk s := by unfold chk; rw [h.sz, h.fmF_, h.twF_, h.nmF_]
theorem Sw.symm (h : Sw a b s s') : Sw a b s' s := ⟨h.nn, h.sz.symm, fun i => by rw [h.at_, sw_sw]⟩
end
end
end Go.Proofs.YtnfaiaoipeholaaGreat
/- Names are only names: places, trees, what fits, what is made, what is told. No Go here. -/
namespace Go.Proofs.YtnfaiaoipeholaaGreat
section
variable {a b : Int} {s s' t t' : ByteArray}
theorem Sw.cL_ (h : Sw a b s s') (i : Int) : cL (bt s' i) = cL (bt s i) := by rw [h.at_, sw_cL h.nn]
theorem Sw.cN_ (h : Sw a b s s') (i : Int) : cN (bt s' i) = cN (bt s i) := by rw [h.at_, sw_cN h.nn]
theorem Sw.cD_ (h : Sw a b s s') (i : Int) : cD (bt s' i) = cD (bt s i) := by rw [h.at_, sw_cD h.nn]
theorem Sw.cC_ (h : Sw a b s s') (i : Int) : cC (bt s' i) = cC (bt s i) := by rw [h.at_, sw_cC h.nn]
theorem Sw.cO_ (h : Sw a b s s') (i : Int) : cO (bt s' i) = cO (bt s i) := by rw [h.at_, sw_cO h.nn]
theorem Sw.cX_ (h : Sw a b s s') (i : Int) : cX (bt s' i) = cX (bt s i) := by rw [h.at_, sw_cX h.nn]
theorem Sw.isF_ (h : Sw a b s s') (p : Nat) : isF s' p = isF s p := by unfold isF; rw [h.cL_, h.cN_, h.cO_]
theorem Sw.dpt_ (h : Sw a b s s') (i : Int) (d : Int) : dpt (bt s' i) d = dpt (bt s i) d := by unfold dpt; rw [h.cO_, h.cX_]
theorem Sw.bhF_ (h : Sw a b s s') : ∀ n i d, bhF s' n i d = bhF s n i d
  | 0, i, d => h.sz
  | n + 1, i, d => by unfold bhF; rw [h.dpt_, h.bhF_ n]
theorem Sw.bh_ (h : Sw a b s s') (f : Nat) : bh s' f = bh s f := by unfold bh bhD; rw [h.sz, h.bhF_]
theorem Sw.feF_ (h : Sw a b s s') : ∀ n p, feF s' n p = feF s n p
  | 0, p => rfl
  | n + 1, p => by unfold feF; rw [h.isF_, h.bh_, h.feF_ n]
theorem Sw.fe_ (h : Sw a b s s') (p : Nat) : fe s' p = fe s p := by unfold fe; rw [h.sz, h.feF_]
theorem Sw.bar (h : Sw a b s s') (p : Nat) : (bt s' p = 124) = (bt s p = 124) := propext (h.eq p (k := 124) rfl)
theorem Sw.ap_ (h : Sw a b s s') : ∀ k x, ap s' k x = ap s k x
  | 0, x => rfl
  | k + 1, x => by unfold ap; simp only [h.fe_, h.bar, h.ap_ k]
theorem Sw.stF_ (h : Sw a b s s') : ∀ n x, stF s' n x = stF s n x
  | 0, x => rfl
  | n + 1, x => by unfold stF; simp only [h.fe_, h.bar, h.stF_ n]
theorem Sw.sts_ (h : Sw a b s s') (x : Nat) : sts s' x = sts s x := by unfold sts; rw [h.sz, h.stF_]
/-- what is known of names, told by their letters -/
def NB (a b : Int) (N N' : Nat → Bool) : Prop := ∀ c : Int, cN c = true → N' (sw a b c - 65).toNat = N (c - 65).toNat
theorem Sw.facFit_ (h : Sw a b s s') {N N' r : Nat → Bool} (hN : NB a b N N') (f : Nat) : facFit s' N' r f = facFit s N r f := by
  unfold facFit
  rw [h.cN_]
  split
  · rename_i hc; rw [h.at_]; exact hN _ hc
  · simp only [h.eq f (k := 40) rfl, h.eq f (k := 60) rfl]
theorem Sw.altFit_ (h : Sw a b s s') {N N' r : Nat → Bool} (hN : NB a b N N') (L : List Nat) : altFit s' N' r L = altFit s N r L := by
  unfold altFit
  rw [show facFit s' N' r = facFit s N r from funext fun f => h.facFit_ hN f]
theorem Sw.expF_ (h : Sw a b s s') {N N' : Nat → Bool} (hN : NB a b N N') : ∀ n, expF s' N' n = expF s N n
  | 0 => rfl
  | n + 1 => funext fun x => by
    unfold expF
    rw [h.sts_, h.expF_ hN n]
    simp only [h.altFit_ hN, h.fe_]
theorem Sw.expFit_ (h : Sw a b s s') {N N' : Nat → Bool} (hN : NB a b N N') (x : Nat) : expFit s' N' x = expFit s N x := by
  unfold expFit; rw [h.sz, h.expF_ hN]
theorem Sw.nFit_ (h : Sw a b s s') : ∀ l, NB a b (nFit s l) (nFit s' l)
  | 0 => fun c _ => rfl
  | l + 1 => fun c hc => by
    have hc' : cN (sw a b c) = true := by rw [sw_cN h.nn, hc]
    have e1 : 65 ≤ c ∧ c ≤ 90 := by simpa [cN] using hc
    have e2 : 65 ≤ sw a b c ∧ sw a b c ≤ 90 := by simpa [cN] using hc'
    show expFit s' (nFit s' l) (rl s' ((65 + (sw a b c - 65).toNat : Nat) : Int) + 2).toNat = expFit s (nFit s l) (rl s ((65 + (c - 65).toNat : Nat) : Int) + 2).toNat
    rw [show ((65 + (sw a b c - 65).toNat : Nat) : Int) = sw a b c by omega, show ((65 + (c - 65).toNat : Nat) : Int) = c by omega, h.rl_, h.expFit_ (h.nFit_ l)]
theorem Sw.fitL_ (h : Sw a b s s') (l x : Nat) : fitL s' l x = fitL s l x := by
  unfold fitL
  rw [h.sts_, show expFit s' (nFit s' l) = expFit s (nFit s l) from funext fun x => h.expFit_ (h.nFit_ l) x]
  simp only [h.altFit_ (h.nFit_ l), h.fe_]
theorem Sw.few_ (h : Sw a b s s') (f : Nat) : few (bt s' f) = few (bt s f) := by
  unfold few
  simp only [h.eq f (k := 40) rfl, h.eq f (k := 60) rfl]
theorem Sw.grt_ (h : Sw a b s s') (m f : Nat) : grt m (bt s' f) = grt m (bt s f) := by
  unfold grt
  simp only [h.eq f (k := 40) rfl, h.eq f (k := 91) rfl]
theorem Sw.cnt_ (h : Sw a b s s') (m l f : Nat) : cnt s' m l f = cnt s m l f := by
  unfold cnt; rw [h.expFit_ (h.nFit_ l), h.grt_, h.few_]
end
end Go.Proofs.YtnfaiaoipeholaaGreat
/- Names are only names: trees that are read, the choices that are told. No Go here. -/
namespace Go.Proofs.YtnfaiaoipeholaaGreat
section
variable {a b : Int} {s s' t t' : ByteArray}
theorem cN_cC' (c : Int) : cN (cC c) = false := by rcases cC_vals c with h | h | h | h | h <;> rw [h] <;> rfl
theorem Sw.pEl_ (ht : Sw a b t t') (rec : Nat → Option (Nat × Nat)) {c : Int} (hc : cN c = false) (many : Bool) (most : Int) : ∀ m i top cnt, pEl t' rec c many most m i top cnt = pEl t rec c many most m i top cnt
  | 0, i, top, cnt => rfl
  | m + 1, i, top, cnt => by
    unfold pEl
    simp only [ht.eq _ hc, ht.eq _ (k := 44) rfl, ht.pEl_ rec hc many most m]
theorem Sw.pB_ (h : Sw a b s s') (ht : Sw a b t t') (most : Int) (rec : Nat → Nat → Option (Nat × Nat)) (f i : Nat) : pB s' t' most rec f i = pB s t most rec f i := by
  unfold pB
  rw [h.cC_, ht.sz]
  simp only [h.eq f (k := 91) rfl, h.eq f (k := 123) rfl, h.eq f (k := 60) rfl, ht.eq _ (cN_cC' _), ht.pEl_ _ (cN_cC' _)]
theorem Sw.pN_ (h : Sw a b s s') (ht : Sw a b t t') (rec : Nat → Nat → Option (Nat × Nat)) (f i : Nat) : pN s' t' rec f i = pN s t rec f i := by
  unfold pN
  rw [h.rlb]
  simp only [ne_eq, ht.eq _ (k := 40) rfl, ht.eq _ (k := 41) rfl]
theorem Sw.pF_ (h : Sw a b s s') (ht : Sw a b t t') (most : Int) (rec : Nat → Nat → Option (Nat × Nat)) (f i : Nat) : pF s' t' most rec f i = pF s t most rec f i := by
  unfold pF
  rw [h.cL_, h.cN_, h.pN_ ht, h.pB_ ht]
  have e : (bt t' i = bt s' f) = (bt t i = bt s f) := by rw [ht.at_, h.at_]; exact propext sw_inj
  simp only [ne_eq, e]
theorem Sw.dg_ (ht : Sw a b t t') {i : Int} (h : cD (bt t i) = true) : bt t' i = bt t i := by
  rw [ht.at_]
  refine sw_of _ ?_ ht.nn
  simp [cD] at h
  simp [cN]; omega
theorem Sw.pE_ (h : Sw a b s s') (ht : Sw a b t t') (most : Int) : ∀ n, pE s' t' most n = pE s t most n
  | 0 => rfl
  | n + 1 => funext fun x => funext fun i => by
    unfold pE
    rw [ht.cD_, h.pE_ ht most n]
    split
    · rename_i hc
      rw [ht.dg_ hc, h.ap_]
      rw [show pF s' t' most (pE s t most n) = pF s t most (pE s t most n) from funext fun f => funext fun i => h.pF_ ht most _ f i]
      simp only [h.fe_]
    · rfl
theorem Sw.whole_ (h : Sw a b s s') (ht : Sw a b t t') (most : Int) : whole s' t' most = whole s t most := by
  unfold whole
  rw [ht.sz, h.pE_ ht, h.pF_ ht]
theorem Sw.hgt_ (h : Sw a b s s') (ht : Sw a b t t') : hgt s' t' = hgt s t := by unfold hgt; rw [h.chk_, h.whole_ ht]
theorem Sw.elF_ (ht : Sw a b t t') : ∀ n i d c, elF t' n i d c = elF t n i d c
  | 0, i, d, c => rfl
  | n + 1, i, d, c => by
    unfold elF
    simp only [ht.dpt_, ht.eq _ (k := 44) rfl, ht.elF_ n]
theorem Sw.els_ (ht : Sw a b t t') (p : Nat) : els t' p = els t p := by unfold els elD; rw [ht.cX_, ht.sz, ht.elF_]
theorem Sw.mxF_ (ht : Sw a b t t') : ∀ n i r, mxF t' n i r = mxF t n i r
  | 0, i, r => rfl
  | n + 1, i, r => by unfold mxF; rw [ht.cO_, ht.els_, ht.mxF_ n]
theorem Sw.mx_ (ht : Sw a b t t') : mx t' = mx t := by unfold mx; rw [ht.sz, ht.mxF_]
theorem Sw.nEl_ (ht : Sw a b t t') (rec : Nat → Option (Nat × Nat)) {c : Int} (hc : cN c = false) : ∀ m i, nEl t' rec c m i = nEl t rec c m i
  | 0, i => rfl
  | m + 1, i => by unfold nEl; simp only [ht.eq _ hc, ht.nEl_ rec hc m]
theorem Sw.nB_ (h : Sw a b s s') (ht : Sw a b t t') (rec : Nat → Nat → Option (Nat × Nat)) (f i : Nat) : nB s' t' rec f i = nB s t rec f i := by
  unfold nB
  rw [h.cC_, ht.sz]
  simp only [h.eq f (k := 91) rfl, h.eq f (k := 123) rfl, ht.eq _ (cN_cC' _), ht.nEl_ _ (cN_cC' _)]
theorem Sw.dEl_ (ht : Sw a b t t') (rec : Nat → Option (Nat × Nat)) (dr : Nat → List Int) {c : Int} (hc : cN c = false) : ∀ m i, dEl t' rec dr c m i = dEl t rec dr c m i
  | 0, i => rfl
  | m + 1, i => by unfold dEl; simp only [ht.eq _ hc, ht.dEl_ rec dr hc m]
theorem Sw.dB_ (h : Sw a b s s') (ht : Sw a b t t') (m : Nat) (rec : Nat → Nat → Option (Nat × Nat)) (dr : Nat → Nat → Nat → List Int) (l f i : Nat) : dB s' t' m rec dr l f i = dB s t m rec dr l f i := by
  unfold dB
  rw [h.cnt_, h.nB_ ht, h.few_, h.cC_, ht.sz]
  simp only [h.eq f (k := 91) rfl, h.eq f (k := 123) rfl, ht.eq _ (cN_cC' _), ht.dEl_ _ _ (cN_cC' _)]
theorem Sw.dF_ (h : Sw a b s s') (ht : Sw a b t t') (m : Nat) (rec : Nat → Nat → Option (Nat × Nat)) (dr : Nat → Nat → Nat → List Int) (l f i : Nat) : dF s' t' m rec dr l f i = dF s t m rec dr l f i := by
  unfold dF
  rw [h.cN_, h.cO_, h.rlb, h.dB_ ht]
theorem Sw.wayIx_ (h : Sw a b s s') (l x k : Nat) : wayIx s' l x k = wayIx s l x k := by
  unfold wayIx
  rw [h.sts_, show expFit s' (nFit s' l) = expFit s (nFit s l) from funext fun x => h.expFit_ (h.nFit_ l) x]
  simp only [h.altFit_ (h.nFit_ l), h.fe_]
theorem dFs_same {g : Nat → Nat → Option (Nat × Nat)} {dg dg' : Nat → Nat → List Int} : ∀ (L : List Nat) (i top : Nat) (r : Nat × Nat), pFs g L i top = some r → (∀ f, ∀ i j k, g f i = some (j, k) → dg' f i = dg f i) → dFs g dg' L i = dFs g dg L i
  | [], i, top, r, _, _ => rfl
  | f :: L, i, top, r, e, hg => by
    unfold pFs at e
    unfold dFs
    cases hq : g f i with
    | none => rw [hq] at e; cases e
    | some q =>
      obtain ⟨j, k⟩ := q
      rw [hq] at e
      simp only at e ⊢
      rw [hg f i j k hq, dFs_same L j _ r e hg]
theorem dEl_same {rec : Nat → Option (Nat × Nat)} {dr dr' : Nat → List Int} {c : Int} {many : Bool} {most : Int} (hg : ∀ i j k, rec i = some (j, k) → dr' i = dr i) : ∀ (m i top : Nat) (cn : Int) (r : Nat × Nat), pEl t rec c many most m i top cn = some r → dEl t rec dr' c m i = dEl t rec dr c m i
  | 0, i, top, cn, r, _ => rfl
  | m + 1, i, top, cn, r, e => by
    unfold pEl at e
    unfold dEl
    cases hq : rec i with
    | none => rw [hq] at e; cases e
    | some q =>
      obtain ⟨j, k⟩ := q
      rw [hq] at e
      simp only at e ⊢
      rw [hg i j k hq]
      split at e
      · cases e
      · split at e
        · rename_i hb; rw [if_pos hb, if_pos hb]
        · rename_i hb
          rw [if_neg hb, if_neg hb]
          split at e
          · rw [dEl_same hg m _ _ _ r e]
          · cases e
theorem dF_same {m : Nat} {rec : Nat → Nat → Option (Nat × Nat)} {dr dr' : Nat → Nat → Nat → List Int} (hg : ∀ l x i j k, rec x i = some (j, k) → dr' l x i = dr l x i) {l f i : Nat} {r : Nat × Nat} (e : pF s t 0 rec f i = some r) : dF s t m rec dr' l f i = dF s t m rec dr l f i := by
  unfold pF at e
  unfold dF
  split at e
  · cases e
  split at e
  · rename_i hc
    have h1 : ¬ cN (bt s f) = true := fun h => by rw [cN_cL h] at hc; cases hc
    rw [if_neg h1, if_neg h1]
    have h2 : ¬ cO (bt s f) = true := fun h => by
      simp [cL] at hc
      unfold cO cC at h
      rw [if_neg (by omega), if_neg (by omega)] at h
      by_cases h3 : bt s f = 123
      · omega
      · rw [if_neg h3, if_neg (by omega)] at h; cases h
    rw [if_neg h2, if_neg h2]
  · split at e
    · rename_i hc
      rw [if_pos hc, if_pos hc]
      unfold pN at e
      split at e
      · cases e
      · cases hq : rec (rl s (bt s f) + 2).toNat (i + 1 + 1) with
        | none => rw [hq] at e; cases e
        | some q => exact hg _ _ _ q.1 q.2 hq
    · rename_i hc
      rw [if_neg hc, if_neg hc]
      split
      · unfold pB at e
        unfold dB
        split at e
        · rename_i hb; rw [if_pos hb, if_pos hb]
        · rename_i hb
          rw [if_neg hb, if_neg hb, dEl_same (hg l (f + 1)) _ _ _ _ _ e]
      · rfl
theorem Sw.dE_ (h : Sw a b s s') (ht : Sw a b t t') (m : Nat) : ∀ n l x i j k, pE s t 0 n x i = some (j, k) → dE s' t' m n l x i = dE s t m n l x i
  | 0, l, x, i, j, k, _ => rfl
  | n + 1, l, x, i, j, k, e => by
    unfold pE at e
    unfold dE
    split at e
    · rename_i hc
      rw [ht.dg_ hc, h.fitL_, h.wayIx_, h.ap_]
      cases hq : ap s (bt t i - 48).toNat x with
      | none => rfl
      | some y =>
        rw [hq] at e
        simp only at e ⊢
        rw [h.pE_ ht, h.fe_]
        rw [show pF s' t' 0 (pE s t 0 n) = pF s t 0 (pE s t 0 n) from funext fun f => funext fun i => h.pF_ ht 0 _ f i]
        rw [dFs_same (dg' := dF s' t' m (pE s t 0 n) (dE s' t' m n) l) (dg := dF s t m (pE s t 0 n) (dE s t m n) l) _ _ _ _ e (fun f i j k ef => by
          rw [h.dF_ ht]
          exact dF_same (fun l x i j k ex => h.dE_ ht m n l x i j k ex) ef)]
    · cases e
theorem Sw.told_ (h : Sw a b s s') (ht : Sw a b t t') (hh m : Nat) {n : Nat} (hw : whole s t 0 = some n) : told s' t' hh m = told s t hh m := by
  unfold whole at hw
  split at hw
  · cases hw
  cases hq : pF s t 0 (pE s t 0 (t.size + 1)) 0 0 with
  | none => rw [hq] at hw; cases hw
  | some q =>
    unfold told
    rw [ht.sz, h.pE_ ht, h.dF_ ht]
    exact dF_same (fun l x i j k ex => h.dE_ ht m _ l x i j k ex) hq
theorem Sw.rcl_ (h : Sw a b s s') (ht : Sw a b t t') (hh m : Int) : rcl s' t' hh m = rcl s t hh m := by
  unfold rcl
  rw [h.hgt_ ht, ht.mx_]
  by_cases h0 : (hgt s t).2 = 0
  · have : ∃ n, whole s t 0 = some n := by
      unfold hgt at h0
      split at h0
      · rename_i h1; exact absurd h0 h1
      · cases hw : whole s t 0 with
        | none => rw [hw] at h0; cases h0
        | some n => exact ⟨n, rfl⟩
    obtain ⟨n, hw⟩ := this
    rw [h.told_ ht _ _ hw]
  · simp only [ne_eq, h0, not_false_eq_true, if_true]
end
end Go.Proofs.YtnfaiaoipeholaaGreat
/- Names are only names: what is made. No Go here. -/
namespace Go.Proofs.YtnfaiaoipeholaaGreat
/-- the bytes with two names for one another -/
def mp (a b : Int) (p : Nat × List Int) : Nat × List Int := (p.1, p.2.map (sw a b))
section
variable {a b : Int} {s s' c : ByteArray}
theorem facsG_mp {g g' : Nat → Nat → Nat × List Int} (hg : ∀ f i, g' f i = mp a b (g f i)) : ∀ (L : List Nat) (i : Nat), facsG g' L i = mp a b (facsG g L i)
  | [], i => rfl
  | f :: L, i => by
    unfold facsG
    rw [hg, facsG_mp hg L]
    simp [mp]
theorem elsG_mp (n : NN a b) {g g' : Nat → Nat × List Int} (hg : ∀ i, g' i = mp a b (g i)) (i : Nat) : ∀ k, elsG g' i k = mp a b (elsG g i k)
  | 0 => rfl
  | k + 1 => by
    unfold elsG
    rw [elsG_mp n hg i k, hg]
    have h44 : sw a b 44 = 44 := sw_of 44 rfl n
    cases k with
    | zero => simp [mp]
    | succ k => simp [mp, h44]
theorem Sw.genF_ (h : Sw a b s s') (g : Gram s) (ten : Ten s) {m : Nat} {r r' : Nat → Nat → Nat → Nat × List Int} (hr : ∀ l x i, (sts s x).length ≤ 10 → r' l x i = mp a b (r l x i)) (l f i : Nat) : genF s' c m r' l f i = mp a b (genF s c m r l f i) := by
  have h40 : sw a b 40 = 40 := sw_of 40 rfl h.nn
  have h41 : sw a b 41 = 41 := sw_of 41 rfl h.nn
  unfold genF
  rw [h.cN_, h.cO_]
  split
  · rename_i hc
    obtain ⟨j, j1, j2, j3, _⟩ := g.name f hc
    have hx : (sts s (rl s (bt s f) + 2).toNat).length ≤ 10 := by
      rw [show (rl s (bt s f) + 2).toNat = j + 2 by omega]; exact ten.rule j j2 j3
    unfold genN
    rw [h.rlb, hr _ _ _ hx, h.at_]
    simp [mp, h40, h41]
  · split
    · rename_i hO
      unfold genB
      rw [h.cnt_, h.few_, h.cC_, h.at_, elsG_mp h.nn (fun i => hr l (f + 1) i (ten.sub f hO))]
      simp [mp, sw_of _ (cN_cC' (bt s f)) h.nn]
    · rw [h.at_]; simp [mp]
theorem Sw.gone_ (h : Sw a b s s') (l x i : Nat) : gone s' c l x i = gone s c l x i := by unfold gone; rw [h.fitL_]
theorem fitL_lt {l x k : Nat} (hk : k ∈ fitL s l x) : k < (sts s x).length := by
  unfold fitL at hk
  rw [List.mem_filter] at hk
  simpa using hk.1
theorem gone_ten {l x i : Nat} (hx : (sts s x).length ≤ 10) : gone s c l x i ≤ 9 := by
  unfold gone
  rw [List.getD_eq_getElem?_getD]
  cases hq : (fitL s l x)[wayN c i (fitL s l x).length]? with
  | none => simp
  | some k => have := fitL_lt (List.mem_of_getElem? hq); simp; omega
theorem Sw.genE_ (h : Sw a b s s') (g : Gram s) (ten : Ten s) (m : Nat) : ∀ n l x i, (sts s x).length ≤ 10 → genE s' c m n l x i = mp a b (genE s c m n l x i)
  | 0, l, x, i, _ => rfl
  | n + 1, l, x, i, hx => by
    unfold genE
    rw [h.gone_, h.fitL_, h.sts_, h.fe_, facsG_mp (fun f i => h.genF_ g ten (fun l x i hx => h.genE_ g ten m n l x i hx) l f i)]
    have h9 := gone_ten (c := c) (l := l) (i := i) hx
    have hd : sw a b (48 + (gone s c l x i : Int)) = 48 + (gone s c l x i : Int) := sw_of _ (by simp [cN]; omega) h.nn
    simp [mp, hd]
theorem Sw.made_ (h : Sw a b s s') (g : Gram s) (ten : Ten s) (hh m : Nat) : made s' c hh m = mp a b (made s c hh m) := by
  unfold made full dep
  rw [h.sz]
  exact h.genF_ g ten (fun l x i hx => h.genE_ g ten m _ l x i hx) hh 0 0
theorem bt_strs_out (L : List Int) {i : Int} (h : ¬ (0 ≤ i ∧ i < L.length)) : bt (strOfNums L) i = 0 := bt_out _ _ (by rw [strOfNums_size]; omega)
theorem Sw.strs {L : List Int} (n : NN a b) (hB : Byts L) : Sw a b (strOfNums L) (strOfNums (L.map (sw a b))) := by
  have hB' : Byts (L.map (sw a b)) := fun x hx => by
    obtain ⟨y, hy, rfl⟩ := List.mem_map.1 hx
    have h1 := n.ha
    have h2 := n.hb
    have := hB y hy
    rcases sw_cases a b y with ⟨e, _⟩ | ⟨e, _⟩ | e <;> rw [e] <;> omega
  refine ⟨n, by rw [strOfNums_size, strOfNums_size, List.length_map], fun i => ?_⟩
  by_cases hi : 0 ≤ i ∧ i < L.length
  · obtain ⟨k, rfl⟩ : ∃ k : Nat, i = k := ⟨i.toNat, by omega⟩
    have hk : k < L.length := by omega
    rw [bt_strs hB hk, bt_strs hB' (by rw [List.length_map]; exact hk), List.getElem_map]
  · rw [bt_strs_out L hi, bt_strs_out _ (by rw [List.length_map]; exact hi), sw_of 0 rfl n]
theorem made_byts (g : Gram s) (ten : Ten s) (hh m : Nat) : Byts (made s c hh m).2 := by
  unfold made genF
  rw [if_pos (startN g)]
  obtain ⟨j, j1, j2, j3, _⟩ := g.name 0 (startN g)
  refine Byts.cons (bt_byte s 0) (Byts.cons (by omega) (Byts.app ?_ (Byts.cons (by omega) Byts.nil)))
  rw [show (rl s (bt s (0 : Nat)) + 2).toNat = j + 2 by omega]
  exact genE_byts g ten _ _ _ _ (ten.rule j j2 j3)
/-- the same choices make the same tree with the names for one another -/
theorem mk_sw (h : Sw a b s s') (c : ByteArray) (hh m : Int) : (mk s' c hh m).2 = (mk s c hh m).2 ∧ ((mk s c hh m).2 = 0 → Sw a b (mk s c hh m).1 (mk s' c hh m).1) := by
  unfold mk
  rw [h.chk_]
  by_cases hk : (chk s).1 = 0
  · rw [if_neg (by simp [hk]), if_neg (by simp [hk])]
    have g := gram_of hk
    have ten := ten_chk hk
    have hn : nFit s' hh.toNat (bt s' (0 : Nat) - 65).toNat = nFit s hh.toNat (bt s (0 : Nat) - 65).toNat := by
      rw [h.at_]; exact h.nFit_ hh.toNat _ (startN g)
    have hm := h.made_ (c := c) g ten hh.toNat m.toNat
    have hl : (made s' c hh.toNat m.toNat).2.length = (made s c hh.toNat m.toNat).2.length := by rw [hm]; simp [mp]
    unfold mkR
    rw [hn, hl]
    by_cases h1 : 2000 < c.size ∨ digs c = false
    · rw [if_pos h1, if_pos h1]; exact ⟨rfl, fun e => by cases e⟩
    rw [if_neg h1, if_neg h1]
    by_cases h2 : ¬ (1 ≤ hh ∧ hh ≤ 9 ∧ 1 ≤ m ∧ m ≤ 5)
    · rw [if_pos h2, if_pos h2]; exact ⟨rfl, fun e => by cases e⟩
    rw [if_neg h2, if_neg h2]
    by_cases h3 : nFit s hh.toNat (bt s (0 : Nat) - 65).toNat = false
    · rw [if_pos h3, if_pos h3]; exact ⟨rfl, fun e => by cases e⟩
    rw [if_neg h3, if_neg h3]
    by_cases h4 : 2000 < (made s c hh.toNat m.toNat).2.length
    · rw [if_pos h4, if_pos h4]; exact ⟨rfl, fun e => by cases e⟩
    rw [if_neg h4, if_neg h4]
    refine ⟨rfl, fun _ => ?_⟩
    show Sw a b (strOfNums (made s c hh.toNat m.toNat).2) (strOfNums (made s' c hh.toNat m.toNat).2)
    rw [hm]
    exact Sw.strs h.nn (made_byts g ten _ _)
  · rw [if_pos hk, if_pos hk]
    exact ⟨rfl, fun e => absurd e hk⟩
end
end Go.Proofs.YtnfaiaoipeholaaGreat
