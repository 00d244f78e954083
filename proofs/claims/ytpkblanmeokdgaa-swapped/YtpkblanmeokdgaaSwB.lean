/- Names are only names: places, trees, what fits, what is made, what is told. No Go here. -/
import Derived.Test.YtpkblanmeokdgaaSwA
import Derived.Test.YtpkblanmeokdgaaInvD
namespace Go.Proofs.Ytpkblanmeokdgaa
section
variable {a b : Int} {s s' t t' : ByteArray}
theorem Sw.cL_ (h : Sw a b s s') (i : Int) : cL (bt s' i) = cL (bt s i) := by rw [h.at_, sw_cL h.nn]
theorem Sw.cN_ (h : Sw a b s s') (i : Int) : cN (bt s' i) = cN (bt s i) := by rw [h.at_, sw_cN h.nn]
theorem Sw.cD_ (h : Sw a b s s') (i : Int) : cD (bt s' i) = cD (bt s i) := by rw [h.at_, sw_cD h.nn]
theorem Sw.cC_ (h : Sw a b s s') (i : Int) : cC (bt s' i) = cC (bt s i) := by rw [h.at_, sw_cC h.nn]
theorem Sw.cO_ (h : Sw a b s s') (i : Int) : cO (bt s' i) = cO (bt s i) := by rw [h.at_, sw_cO h.nn]
theorem Sw.cX_ (h : Sw a b s s') (i : Int) : cX (bt s' i) = cX (bt s i) := by rw [h.at_, sw_cX h.nn]
theorem Sw.isF_ (h : Sw a b s s') (p : Nat) : isF s' p = isF s p := by unfold isF; rw [h.cL_, h.cN_, h.cO_]
theorem Sw.dpt_ (h : Sw a b s s') (i : Int) (d : Int) : dpt (bt s' i) d = dpt (bt s i) d := by unfold dpt; rw [h.cO_, h.cX_]
theorem Sw.bhF_ (h : Sw a b s s') : ∀ n i d, bhF s' n i d = bhF s n i d
  | 0, i, d => h.sz
  | n + 1, i, d => by unfold bhF; rw [h.dpt_, h.bhF_ n]
theorem Sw.bh_ (h : Sw a b s s') (f : Nat) : bh s' f = bh s f := by unfold bh bhD; rw [h.sz, h.bhF_]
theorem Sw.feF_ (h : Sw a b s s') : ∀ n p, feF s' n p = feF s n p
  | 0, p => rfl
  | n + 1, p => by unfold feF; rw [h.isF_, h.bh_, h.feF_ n]
theorem Sw.fe_ (h : Sw a b s s') (p : Nat) : fe s' p = fe s p := by unfold fe; rw [h.sz, h.feF_]
theorem Sw.bar (h : Sw a b s s') (p : Nat) : (bt s' p = 124) = (bt s p = 124) := propext (h.eq p (k := 124) rfl)
theorem Sw.ap_ (h : Sw a b s s') : ∀ k x, ap s' k x = ap s k x
  | 0, x => rfl
  | k + 1, x => by unfold ap; simp only [h.fe_, h.bar, h.ap_ k]
theorem Sw.stF_ (h : Sw a b s s') : ∀ n x, stF s' n x = stF s n x
  | 0, x => rfl
  | n + 1, x => by unfold stF; simp only [h.fe_, h.bar, h.stF_ n]
theorem Sw.sts_ (h : Sw a b s s') (x : Nat) : sts s' x = sts s x := by unfold sts; rw [h.sz, h.stF_]
/-- what is known of names, told by their letters -/
def NB (a b : Int) (N N' : Nat → Bool) : Prop := ∀ c : Int, cN c = true → N' (sw a b c - 65).toNat = N (c - 65).toNat
theorem Sw.facFit_ (h : Sw a b s s') {N N' r : Nat → Bool} (hN : NB a b N N') (f : Nat) : facFit s' N' r f = facFit s N r f := by
  unfold facFit
  rw [h.cN_]
  split
  · rename_i hc; rw [h.at_]; exact hN _ hc
  · simp only [h.eq f (k := 40) rfl, h.eq f (k := 60) rfl]
theorem Sw.altFit_ (h : Sw a b s s') {N N' r : Nat → Bool} (hN : NB a b N N') (L : List Nat) : altFit s' N' r L = altFit s N r L := by
  unfold altFit
  rw [show facFit s' N' r = facFit s N r from funext fun f => h.facFit_ hN f]
theorem Sw.expF_ (h : Sw a b s s') {N N' : Nat → Bool} (hN : NB a b N N') : ∀ n, expF s' N' n = expF s N n
  | 0 => rfl
  | n + 1 => funext fun x => by
    unfold expF
    rw [h.sts_, h.expF_ hN n]
    simp only [h.altFit_ hN, h.fe_]
theorem Sw.expFit_ (h : Sw a b s s') {N N' : Nat → Bool} (hN : NB a b N N') (x : Nat) : expFit s' N' x = expFit s N x := by
  unfold expFit; rw [h.sz, h.expF_ hN]
theorem Sw.nFit_ (h : Sw a b s s') : ∀ l, NB a b (nFit s l) (nFit s' l)
  | 0 => fun c _ => rfl
  | l + 1 => fun c hc => by
    have hc' : cN (sw a b c) = true := by rw [sw_cN h.nn, hc]
    have e1 : 65 ≤ c ∧ c ≤ 90 := by simpa [cN] using hc
    have e2 : 65 ≤ sw a b c ∧ sw a b c ≤ 90 := by simpa [cN] using hc'
    show expFit s' (nFit s' l) (rl s' ((65 + (sw a b c - 65).toNat : Nat) : Int) + 2).toNat = expFit s (nFit s l) (rl s ((65 + (c - 65).toNat : Nat) : Int) + 2).toNat
    rw [show ((65 + (sw a b c - 65).toNat : Nat) : Int) = sw a b c by omega, show ((65 + (c - 65).toNat : Nat) : Int) = c by omega, h.rl_, h.expFit_ (h.nFit_ l)]
theorem Sw.fitL_ (h : Sw a b s s') (l x : Nat) : fitL s' l x = fitL s l x := by
  unfold fitL
  rw [h.sts_, show expFit s' (nFit s' l) = expFit s (nFit s l) from funext fun x => h.expFit_ (h.nFit_ l) x]
  simp only [h.altFit_ (h.nFit_ l), h.fe_]
theorem Sw.few_ (h : Sw a b s s') (f : Nat) : few (bt s' f) = few (bt s f) := by
  unfold few
  simp only [h.eq f (k := 40) rfl, h.eq f (k := 60) rfl]
theorem Sw.grt_ (h : Sw a b s s') (m f : Nat) : grt m (bt s' f) = grt m (bt s f) := by
  unfold grt
  simp only [h.eq f (k := 40) rfl, h.eq f (k := 91) rfl]
theorem Sw.cnt_ (h : Sw a b s s') (m l f : Nat) : cnt s' m l f = cnt s m l f := by
  unfold cnt; rw [h.expFit_ (h.nFit_ l), h.grt_, h.few_]
end
end Go.Proofs.Ytpkblanmeokdgaa
