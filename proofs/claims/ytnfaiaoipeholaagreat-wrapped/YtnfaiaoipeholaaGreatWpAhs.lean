/- A start ahead of the start: the form and the faults. No Go here. -/
import Derived.Test.YtnfaiaoipeholaaGreatWpInvD
import Derived.Test.YtnfaiaoipeholaaGreatWpPar
namespace Go.Proofs.YtnfaiaoipeholaaGreat
/-- a new first rule that has the old start alone -/
structure Ahd (X : Int) (s s' : ByteArray) : Prop where
  hX : cN X = true
  sz : s'.size = s.size + 4
  b0 : bt s' (0 : Nat) = X
  b1 : bt s' (1 : Nat) = 61
  b2 : bt s' (2 : Nat) = bt s (0 : Nat)
  b3 : bt s' (3 : Nat) = 59
  up : ∀ i : Nat, bt s' (i + 4 : Nat) = bt s i
  fresh : ∀ i : Nat, bt s i ≠ X
def up4 (z : Int) : Int := if z = -1 then -1 else z + 4
section
variable {X : Int} {s s' : ByteArray}
theorem Ahd.begB_ (h : Ahd X s s') (i : Nat) : begB s' (i + 4 : Nat) = begB s i := by
  unfold begB
  cases i with
  | zero =>
    have e : (((0 + 4 : Nat) : Int) - 1) = ((3 : Nat) : Int) := by omega
    rw [e, h.b3]; rfl
  | succ i =>
    have e : (((i + 1 + 4 : Nat) : Int) - 1) = ((i + 4 : Nat) : Int) := by omega
    have e2 : (((i + 1 : Nat) : Int) - 1) = (i : Int) := by omega
    rw [e, e2, h.up]
    have n1 : (((i + 1 + 4 : Nat) : Int) == 0) = false := by simp; omega
    have n2 : (((i + 1 : Nat) : Int) == 0) = false := by simp; omega
    rw [n1, n2]
theorem Ahd.rlF_ (h : Ahd X s s') (c : Int) : ∀ n i : Nat, rlF s' c n (i + 4) = up4 (rlF s c n i)
  | 0, i => rfl
  | n + 1, i => by
    unfold rlF
    rw [h.begB_, h.up]
    split
    · unfold up4; rw [if_neg (by omega)]; omega
    · have := h.rlF_ c n (i + 1)
      rw [show i + 1 + 4 = i + 4 + 1 by omega] at this
      exact this
theorem Ahd.beg1 (h : Ahd X s s') : begB s' (1 : Nat) = false := by
  have hX := h.hX
  simp [cN] at hX
  unfold begB
  have e : (((1 : Nat) : Int) - 1) = ((0 : Nat) : Int) := by omega
  rw [e, h.b0]; simp; omega
theorem Ahd.beg2 (h : Ahd X s s') : begB s' (2 : Nat) = false := by
  unfold begB
  have e : (((2 : Nat) : Int) - 1) = ((1 : Nat) : Int) := by omega
  rw [e, h.b1]; rfl
theorem Ahd.beg3 (h : Ahd X s s') (hn : cN (bt s (0 : Nat)) = true) : begB s' (3 : Nat) = false := by
  simp [cN] at hn
  unfold begB
  have e : (((3 : Nat) : Int) - 1) = ((2 : Nat) : Int) := by omega
  rw [e, h.b2]; simp; omega
theorem rlF_nox {s : ByteArray} {c : Int} {n i : Nat} (h : (begB s i && bt s i == c) = false) : rlF s c (n + 1) i = rlF s c n (i + 1) := by
  show (if (begB s i && bt s i == c) = true then (i : Int) else rlF s c n (i + 1)) = _
  rw [h]; rfl
theorem Ahd.rl_ (h : Ahd X s s') (hn : cN (bt s (0 : Nat)) = true) {c : Int} (hc : c ≠ X) : rl s' c = up4 (rl s c) := by
  unfold rl
  rw [h.sz, rlF_nox (by rw [h.b0]; simp; intro _; exact fun e => hc e.symm), rlF_nox (by rw [h.beg1]; rfl), rlF_nox (by rw [h.beg2]; rfl), rlF_nox (by rw [h.beg3 hn]; rfl)]
  exact h.rlF_ c s.size 0
theorem Ahd.rlX (h : Ahd X s s') : rl s' X = 0 := by
  unfold rl
  rw [h.sz]
  show (if (begB s' ((0 : Nat) : Int) && bt s' (0 : Nat) == X) = true then ((0 : Nat) : Int) else _) = 0
  rw [h.b0, if_pos (by simp [begB])]; rfl
theorem Ahd.rlu (h : Ahd X s s') (hn : cN (bt s (0 : Nat)) = true) (i : Nat) : rl s' (bt s i) = up4 (rl s (bt s i)) := h.rl_ hn (h.fresh i)
/-- the form goes on behind the new rule -/
theorem Ahd.fmF_ (h : Ahd X s s') (hz : s.size ≠ 0) : ∀ n i : Nat, ∀ x op al, (fmF s n i x op al).1 = 0 → fmF s' n (i + 4) x op al = (0, 0) ∧ fmF s n i x op al = (0, 0)
  | 0, i, x, op, al, e => by
    unfold fmF at e ⊢
    by_cases hx : x ≠ 0
    · rw [if_pos (.inl hx)] at e; cases e
    · have hz' := h.sz
      rw [if_neg (by omega), if_neg (by omega)]; exact ⟨rfl, rfl⟩
  | n + 1, i, x, op, al, e => by
    unfold fmF at e ⊢
    rw [h.up]
    split at e
    · rename_i h0; exact absurd e h0
    · rename_i h0
      rw [if_neg h0, if_neg h0]
      have := h.fmF_ hz n (i + 1) _ _ _ e
      rw [show i + 1 + 4 = i + 4 + 1 by omega] at this
      exact this
/-- ahead of a rule's expression nothing is kept -/
theorem fmF_al (s : ByteArray) (op op' al al' : List Int) : ∀ n i a, a = 0 ∨ a = 1 → fmF s n i a op al = fmF s n i a op' al'
  | 0, i, a, _ => rfl
  | n + 1, i, a, ha => by
    unfold fmF
    rcases ha with rfl | rfl
    · cases hc : cN (bt s i)
      · have e1 : mst (bt s i) 0 op al = (2, 0, op, al) := by simp [mst, hc]
        have e2 : mst (bt s i) 0 op' al' = (2, 0, op', al') := by simp [mst, hc]
        rw [e1, e2]; rfl
      · have e1 : mst (bt s i) 0 op al = (0, 1, op, al) := by simp [mst, hc]
        have e2 : mst (bt s i) 0 op' al' = (0, 1, op', al') := by simp [mst, hc]
        rw [e1, e2]
        exact fmF_al s op op' al al' n (i + 1) 1 (.inr rfl)
    · by_cases hc : bt s i = 61
      · have e1 : mst (bt s i) 1 op al = (0, 2, [], [1]) := by simp [mst, hc]
        have e2 : mst (bt s i) 1 op' al' = (0, 2, [], [1]) := by simp [mst, hc]
        rw [e1, e2]
      · have e1 : mst (bt s i) 1 op al = (2, 1, op, al) := by simp [mst, hc]
        have e2 : mst (bt s i) 1 op' al' = (2, 1, op', al') := by simp [mst, hc]
        rw [e1, e2]; rfl
theorem Ahd.fm (h : Ahd X s s') (hn : cN (bt s (0 : Nat)) = true) (hz : s.size ≠ 0) (e : (fmF s s.size 0 0 [] []).1 = 0) : fmF s' s'.size 0 0 [] [] = (0, 0) := by
  have hX := h.hX
  rw [h.sz]
  have m0 : mst X 0 [] [] = (0, 1, [], []) := by simp [mst, hX]
  have m1 : mst 61 1 [] [] = (0, 2, [], [1]) := rfl
  have m2 : mst (bt s (0 : Nat)) 2 [] [1] = (0, 2, [], [1]) := by
    have hn' : 65 ≤ bt s (0 : Nat) ∧ bt s (0 : Nat) ≤ 90 := by simpa [cN] using hn
    unfold mst
    rw [if_neg (by omega), if_neg (by omega), if_neg (by omega)]
    unfold stp
    rw [if_pos (by rw [hn, Bool.or_true])]
  have m3 : mst 59 2 [] [1] = (0, 0, [], [1]) := rfl
  have step : ∀ (n i : Nat) (c x : Int) (op al : List Int) (y : Int) (op' al' : List Int), bt s' i = c → mst c x op al = (0, y, op', al') → fmF s' (n + 1) i x op al = fmF s' n (i + 1) y op' al' := fun n i c x op al y op' al' hb hm => by
    show (if (mst (bt s' i) x op al).1 ≠ 0 then _ else _) = _
    rw [hb, hm]; rfl
  rw [step (s.size + 3) 0 _ _ _ _ _ _ _ h.b0 m0, step (s.size + 2) 1 _ _ _ _ _ _ _ h.b1 m1, step (s.size + 1) 2 _ _ _ _ _ _ _ h.b2 m2, step s.size 3 _ _ _ _ _ _ _ h.b3 m3]
  rw [fmF_al s' [] [] [1] [] s.size 4 0 (.inl rfl)]
  exact (h.fmF_ hz s.size 0 0 [] [] e).1
theorem twF_ok (s : ByteArray) : ∀ n i, (∀ j : Nat, i ≤ j → j < i + n → begB s j = true → rl s (bt s j) = j) → twF s n i = (0, 0)
  | 0, i, _ => rfl
  | n + 1, i, h => by
    unfold twF
    rw [if_neg, twF_ok s n (i + 1) (fun j h1 h2 h3 => h j (by omega) (by omega) h3)]
    intro e
    rw [Bool.and_eq_true] at e
    have := h i (Nat.le_refl _) (by omega) e.1
    rw [this] at e
    simp at e
theorem nmF_ok (s : ByteArray) : ∀ n i, (∀ j : Nat, i ≤ j → j < i + n → cN (bt s j) = true → rl s (bt s j) ≠ -1) → nmF s n i = (0, 0)
  | 0, i, _ => rfl
  | n + 1, i, h => by
    unfold nmF
    rw [if_neg, nmF_ok s n (i + 1) (fun j h1 h2 h3 => h j (by omega) (by omega) h3)]
    intro e
    rw [Bool.and_eq_true] at e
    have := h i (Nat.le_refl _) (by omega) e.1
    simp [this] at e
/-- the new grammar is one -/
theorem Ahd.chk_ (h : Ahd X s s') (hk : (chk s).1 = 0) (hz : s.size + 4 ≤ 300) : chk s' = (0, 0) := by
  have g := gram_of hk
  have hn := startN g
  have hf : (fmF s s.size 0 0 [] []).1 = 0 := by
    unfold chk at hk
    rw [if_neg (by omega)] at hk
    by_cases e : (fmF s s.size 0 0 [] []).1 = 0
    · exact e
    · rw [if_pos e] at hk; exact absurd hk e
  unfold chk
  rw [if_neg (by rw [h.sz]; omega), h.fm hn (by have := g.pos; omega) hf, if_neg (by simp)]
  have hu : ∀ j : Nat, rl s (bt s j) = (j : Int) → rl s' (bt s j) = ((j + 4 : Nat) : Int) := fun j e => by
    rw [h.rlu hn, e]; unfold up4; rw [if_neg (by omega)]; omega
  have hk4 : ∀ j : Nat, j = 0 ∨ j = 1 ∨ j = 2 ∨ j = 3 ∨ ∃ k, j = k + 4 := fun j => by
    by_cases hj : j < 4
    · omega
    · exact .inr (.inr (.inr (.inr ⟨j - 4, by omega⟩)))
  rw [twF_ok s' _ _ (fun j _ h2 h3 => by
    rcases hk4 j with rfl | rfl | rfl | rfl | ⟨k, rfl⟩
    · rw [h.b0, h.rlX]; rfl
    · rw [h.beg1] at h3; cases h3
    · rw [h.beg2] at h3; cases h3
    · rw [h.beg3 hn] at h3; cases h3
    · rw [h.begB_] at h3
      rw [h.up]
      exact hu k (g.once k (by have := h.sz; omega) h3)), if_neg (by simp)]
  refine nmF_ok s' _ _ (fun j _ h2 h3 => ?_)
  have hup : ∀ i : Nat, cN (bt s i) = true → rl s' (bt s i) ≠ -1 := fun i hi => by
    obtain ⟨q, q1, _⟩ := g.name i hi
    rw [h.rlu hn, q1]; unfold up4; rw [if_neg (by omega)]; omega
  rcases hk4 j with rfl | rfl | rfl | rfl | ⟨k, rfl⟩
  · rw [h.b0, h.rlX]; omega
  · rw [h.b1] at h3; cases h3
  · rw [h.b2]; exact hup 0 hn
  · rw [h.b3] at h3; cases h3
  · rw [h.up] at h3 ⊢; exact hup k h3
end
end Go.Proofs.YtnfaiaoipeholaaGreat
/- A start ahead of the start: places and what fits. No Go here. -/
namespace Go.Proofs.YtnfaiaoipeholaaGreat
section
variable {X : Int} {s s' : ByteArray}
theorem Ahd.isF_ (h : Ahd X s s') (p : Nat) : isF s' (p + 4) = isF s p := by unfold isF; rw [h.up]
theorem Ahd.bhF_ (h : Ahd X s s') : ∀ n i d, bhF s' n (i + 4) d = bhF s n i d + 4
  | 0, i, d => h.sz
  | n + 1, i, d => by
    unfold bhF
    rw [h.up]
    have := h.bhF_ n (i + 1) (dpt (bt s i) d)
    rw [show i + 1 + 4 = i + 4 + 1 by omega] at this
    rw [this]
    split <;> omega
theorem Ahd.bh_ (h : Ahd X s s') (f : Nat) : bh s' (f + 4) = bh s f + 4 := by
  unfold bh bhD
  rw [show s'.size - (f + 4) = s.size - f by rw [h.sz]; omega, h.bhF_]
theorem Ahd.feF_ (h : Ahd X s s') : ∀ n p, feF s' n (p + 4) = ((feF s n p).1.map (· + 4), (feF s n p).2 + 4)
  | 0, p => rfl
  | n + 1, p => by
    unfold feF
    rw [h.isF_, h.bh_, h.feF_ n]
    split <;> simp
theorem Ahd.fe_ (h : Ahd X s s') (p : Nat) : fe s' (p + 4) = ((fe s p).1.map (· + 4), (fe s p).2 + 4) := by
  unfold fe
  rw [show s'.size - (p + 4) = s.size - p by rw [h.sz]; omega, h.feF_]
theorem Ahd.ap_ (h : Ahd X s s') : ∀ k x, ap s' k (x + 4) = (ap s k x).map (· + 4)
  | 0, x => rfl
  | k + 1, x => by
    unfold ap
    rw [h.fe_]
    simp only
    rw [h.up]
    have := h.ap_ k ((fe s x).2 + 1)
    rw [show (fe s x).2 + 1 + 4 = (fe s x).2 + 4 + 1 by omega] at this
    rw [this]
    split <;> rfl
theorem Ahd.stF_ (h : Ahd X s s') : ∀ n x, stF s' n (x + 4) = (stF s n x).map (· + 4)
  | 0, x => rfl
  | n + 1, x => by
    unfold stF
    rw [h.fe_]
    simp only
    rw [h.up]
    have := h.stF_ n ((fe s x).2 + 1)
    rw [show (fe s x).2 + 1 + 4 = (fe s x).2 + 4 + 1 by omega] at this
    rw [this]
    split <;> simp
theorem Ahd.sts_ (h : Ahd X s s') (x : Nat) : sts s' (x + 4) = (sts s x).map (· + 4) := by
  unfold sts
  rw [show s'.size - (x + 4) = s.size - x by rw [h.sz]; omega, h.stF_]
/-- the new rule's expression: one factor, the old start's name -/
theorem Ahd.fe2 (h : Ahd X s s') (hn : cN (bt s (0 : Nat)) = true) : fe s' 2 = ([2], 3) := by
  have hn' : 65 ≤ bt s (0 : Nat) ∧ bt s (0 : Nat) ≤ 90 := by simpa [cN] using hn
  have hi : isF s' 2 = true := by unfold isF; rw [h.b2, hn]; simp
  have hj : isF s' 3 = false := by unfold isF; rw [h.b3]; rfl
  have hb : bh s' 2 = 3 := by
    unfold bh bhD
    rw [show s'.size - 2 = (s.size + 1) + 1 by rw [h.sz]; omega]
    show (if dpt (bt s' (2 : Nat)) 0 = 0 then 2 + 1 else _) = 3
    rw [if_pos]
    rw [h.b2]
    unfold dpt
    have h1 : cO (bt s (0 : Nat)) = false := by
      unfold cO cC
      rw [if_neg (by omega), if_neg (by omega), if_neg (by omega), if_neg (by omega)]; rfl
    have h2 : cX (bt s (0 : Nat)) = false := by
      generalize bt s (0 : Nat) = q at hn'
      simp [cX]; omega
    rw [h1, h2]; rfl
  rw [fe_yes hi, hb, fe_no hj]
theorem Ahd.sts2 (h : Ahd X s s') (hn : cN (bt s (0 : Nat)) = true) : sts s' 2 = [2] := by
  unfold sts
  rw [show s'.size - 2 = (s.size + 1) + 1 by rw [h.sz]; omega]
  unfold stF
  rw [h.fe2 hn]
  simp only
  rw [h.b3]; rfl
/-- what is known of the old names -/
def NE (X : Int) (N N' : Nat → Bool) : Prop := ∀ c : Int, cN c = true → c ≠ X → N' (c - 65).toNat = N (c - 65).toNat
theorem Ahd.facFit_ (h : Ahd X s s') {N N' r r' : Nat → Bool} (hN : NE X N N') (hr : ∀ x, r' (x + 4) = r x) (f : Nat) : facFit s' N' r' (f + 4) = facFit s N r f := by
  unfold facFit
  rw [h.up]
  split
  · rename_i hc; exact hN _ hc (h.fresh f)
  · have := hr (f + 1)
    rw [show f + 1 + 4 = f + 4 + 1 by omega] at this
    rw [this]
theorem Ahd.altFit_ (h : Ahd X s s') {N N' r r' : Nat → Bool} (hN : NE X N N') (hr : ∀ x, r' (x + 4) = r x) (L : List Nat) : altFit s' N' r' (L.map (· + 4)) = altFit s N r L := by
  unfold altFit
  rw [List.all_map]
  congr 1
  exact funext fun f => h.facFit_ hN hr f
theorem Ahd.expF_ (h : Ahd X s s') {N N' : Nat → Bool} (hN : NE X N N') : ∀ n x, expF s' N' n (x + 4) = expF s N n x
  | 0, x => rfl
  | n + 1, x => by
    unfold expF
    rw [h.sts_, List.any_map]
    congr 1
    exact funext fun y => by
      show altFit s' N' (expF s' N' n) (fe s' (y + 4)).1 = _
      rw [h.fe_]
      exact h.altFit_ hN (h.expF_ hN n) _
theorem expF_no {s : ByteArray} {N : Nat → Bool} {n x : Nat} (h : isF s x = false) : expF s N (n + 1) x = true := by
  unfold expF
  rw [List.any_eq_true]
  refine ⟨x, ?_, ?_⟩
  · unfold sts
    cases s.size - x with
    | zero => simp [stF]
    | succ k => simp [stF]
  · rw [fe_no h]; rfl
theorem expFit_no {s : ByteArray} {N : Nat → Bool} {x : Nat} (h : isF s x = false) : expFit s N x = true := expF_no h
theorem Ahd.expFit_ (h : Ahd X s s') {N N' : Nat → Bool} (hN : NE X N N') (x : Nat) : expFit s' N' (x + 4) = expFit s N x := by
  by_cases hx : x ≤ s.size
  · unfold expFit
    rw [h.expF_ hN, h.sz, expF_eq s N (s.size + 4 + 1) (s.size + 1) x (by omega) (by omega) hx]
  · have h1 : isF s x = false := by
      cases e : isF s x with
      | false => rfl
      | true => have := isF_lt e; omega
    rw [expFit_no h1, expFit_no (by rw [h.isF_]; exact h1)]
theorem Ahd.nFit_ (h : Ahd X s s') (hn : cN (bt s (0 : Nat)) = true) (h1 : bt s (1 : Nat) = 61) : ∀ l, NE X (nFit s l) (nFit s' l)
  | 0 => fun c _ _ => rfl
  | l + 1 => fun c hc hX => by
    have e1 : 65 ≤ c ∧ c ≤ 90 := by simpa [cN] using hc
    show expFit s' (nFit s' l) (rl s' ((65 + (c - 65).toNat : Nat) : Int) + 2).toNat = expFit s (nFit s l) (rl s ((65 + (c - 65).toNat : Nat) : Int) + 2).toNat
    rw [show ((65 + (c - 65).toNat : Nat) : Int) = c by omega, h.rl_ hn hX]
    have hb := rl_bd s c
    by_cases hr : rl s c = -1
    · rw [hr]
      show expFit s' (nFit s' l) 1 = expFit s (nFit s l) 1
      rw [expFit_no (by unfold isF; rw [h.b1]; rfl), expFit_no (by unfold isF; rw [h1]; rfl)]
    · rw [show (up4 (rl s c) + 2).toNat = (rl s c + 2).toNat + 4 by unfold up4; rw [if_neg hr]; omega]
      exact h.expFit_ (h.nFit_ hn h1 l) _
theorem Ahd.nFitX (h : Ahd X s s') (hn : cN (bt s (0 : Nat)) = true) (h1 : bt s (1 : Nat) = 61) (l : Nat) : nFit s' (l + 1) (X - 65).toNat = nFit s l (bt s (0 : Nat) - 65).toNat := by
  have hX : 65 ≤ X ∧ X ≤ 90 := by simpa [cN] using h.hX
  show expFit s' (nFit s' l) (rl s' ((65 + (X - 65).toNat : Nat) : Int) + 2).toNat = _
  rw [show ((65 + (X - 65).toNat : Nat) : Int) = X by omega, h.rlX]
  show expFit s' (nFit s' l) 2 = _
  rw [expFit_step, h.sts2 hn]
  simp only [List.any_cons, List.any_nil, Bool.or_false]
  rw [h.fe2 hn]
  unfold altFit
  simp only [List.all_cons, List.all_nil, Bool.and_true]
  unfold facFit
  rw [h.b2, if_pos hn]
  exact h.nFit_ hn h1 l _ hn (h.fresh 0)
end
end Go.Proofs.YtnfaiaoipeholaaGreat
/- A start ahead of the start: what is made. No Go here. -/
namespace Go.Proofs.YtnfaiaoipeholaaGreat
section
variable {X : Int} {s s' c : ByteArray}
theorem sts_pos (s : ByteArray) (x : Nat) : 0 < (sts s x).length := by
  unfold sts
  cases s.size - x with
  | zero => simp [stF]
  | succ n => simp [stF]
theorem gone_lt (s c : ByteArray) (l x a : Nat) : gone s c l x a < (sts s x).length := by
  unfold gone
  rw [List.getD_eq_getElem?_getD]
  cases hq : (fitL s l x)[wayN c a (fitL s l x).length]? with
  | none => simpa using sts_pos s x
  | some k =>
    have hk := List.mem_of_getElem? hq
    unfold fitL at hk
    rw [List.mem_filter] at hk
    simpa using hk.1
theorem Ahd.getD_ (h : Ahd X s s') {x k : Nat} (hk : k < (sts s x).length) : (sts s' (x + 4)).getD k 0 = (sts s x).getD k 0 + 4 := by
  rw [h.sts_, List.getD_eq_getElem?_getD, List.getD_eq_getElem?_getD, List.getElem?_map, List.getElem?_eq_getElem hk]; rfl
theorem Ahd.fitL_ (h : Ahd X s s') (hn : cN (bt s (0 : Nat)) = true) (h1 : bt s (1 : Nat) = 61) (l x : Nat) : fitL s' l (x + 4) = fitL s l x := by
  unfold fitL
  rw [show (sts s' (x + 4)).length = (sts s x).length by rw [h.sts_, List.length_map]]
  refine List.filter_congr fun k hk => ?_
  rw [h.getD_ (by simpa using hk), h.fe_]
  exact h.altFit_ (h.nFit_ hn h1 l) (h.expFit_ (h.nFit_ hn h1 l)) _
theorem Ahd.gone_ (h : Ahd X s s') (hn : cN (bt s (0 : Nat)) = true) (h1 : bt s (1 : Nat) = 61) (l x a : Nat) : gone s' c l (x + 4) a = gone s c l x a := by
  unfold gone; rw [h.fitL_ hn h1]
theorem Ahd.cnt_ (h : Ahd X s s') (hn : cN (bt s (0 : Nat)) = true) (h1 : bt s (1 : Nat) = 61) (m l f : Nat) : cnt s' m l (f + 4) = cnt s m l f := by
  unfold cnt
  have := h.expFit_ (h.nFit_ hn h1 l) (f + 1)
  rw [show f + 1 + 4 = f + 4 + 1 by omega] at this
  rw [this, h.up]
theorem facsG_up {g g' : Nat → Nat → Nat × List Int} (hg : ∀ f a, g' (f + 4) a = g f a) : ∀ (L : List Nat) (a : Nat), facsG g' (L.map (· + 4)) a = facsG g L a
  | [], a => rfl
  | f :: L, a => by
    rw [List.map_cons]
    unfold facsG
    rw [hg, facsG_up hg L]
theorem Ahd.genF_ (h : Ahd X s s') (g : Gram s) (h1 : bt s (1 : Nat) = 61) {m : Nat} {r r' : Nat → Nat → Nat → Nat × List Int} (hr : ∀ l x a, r' l (x + 4) a = r l x a) (l f a : Nat) : genF s' c m r' l (f + 4) a = genF s c m r l f a := by
  have hn := startN g
  unfold genF
  rw [h.up]
  split
  · rename_i hc
    obtain ⟨j, j1, _⟩ := g.name f hc
    unfold genN
    rw [h.up, h.rlu hn, j1, show (up4 (j : Int) + 2).toNat = ((j : Int) + 2).toNat + 4 by unfold up4; rw [if_neg (by omega)]; omega, hr]
  · split
    · unfold genB
      rw [h.up, h.cnt_ hn h1, show r' l (f + 4 + 1) = r l (f + 1) from funext fun a => by rw [show f + 4 + 1 = f + 1 + 4 by omega]; exact hr l (f + 1) a]
    · rfl
theorem Ahd.genE_ (h : Ahd X s s') (g : Gram s) (h1 : bt s (1 : Nat) = 61) (m : Nat) : ∀ n l x a, genE s' c m n l (x + 4) a = genE s c m n l x a
  | 0, l, x, a => rfl
  | n + 1, l, x, a => by
    have hn := startN g
    unfold genE
    rw [h.gone_ hn h1, h.fitL_ hn h1, h.getD_ (gone_lt s c l x a), h.fe_, facsG_up (fun f a => h.genF_ g h1 (fun l x a => h.genE_ g h1 m n l x a) l f a)]
end
end Go.Proofs.YtnfaiaoipeholaaGreat
/- A start ahead of the start: a tree within a tree is read. No Go here. -/
namespace Go.Proofs.YtnfaiaoipeholaaGreat
/-- a tree within the new start's -/
structure Tx (X : Int) (t u : ByteArray) : Prop where
  sz : u.size = t.size + 4
  b0 : bt u (0 : Nat) = X
  b1 : bt u (1 : Nat) = 40
  b2 : bt u (2 : Nat) = 48
  up : ∀ i : Nat, i < t.size → bt u (i + 3 : Nat) = bt t i
  last : bt u (t.size + 3 : Nat) = 41
section
variable {X : Int} {s s' t u : ByteArray}
theorem Tx.same (hu : Tx X t u) {i : Nat} {k : Int} (hk : k ≠ 0) (h : bt t i = k) : bt u (i + 3 : Nat) = k := by
  rw [hu.up i (bt_lt (by rw [h]; exact hk)), h]
/-- what is read is read there -/
def RdA (r r' : Nat → Option (Nat × Nat)) : Prop := ∀ i j k, r i = some (j, k) → r' (i + 3) = some (j + 3, k)
theorem Tx.pEl_ (hu : Tx X t u) {r r' : Nat → Option (Nat × Nat)} {b : Int} (hb : b ≠ 0) {many : Bool} {most : Int} (hr : RdA r r') :
    ∀ m m' i top cn j k, m ≤ m' → pEl t r b many most m i top cn = some (j, k) → pEl u r' b many most m' (i + 3) top cn = some (j + 3, k)
  | 0, m', i, top, cn, j, k, _, e => by cases e
  | m + 1, 0, i, top, cn, j, k, h, e => by omega
  | m + 1, m' + 1, i, top, cn, j, k, h, e => by
    unfold pEl at e ⊢
    cases hq : r i with
    | none => rw [hq] at e; cases e
    | some q =>
      obtain ⟨j1, k1⟩ := q
      rw [hq] at e
      rw [hr i j1 k1 hq]
      simp only at e ⊢
      split at e
      · cases e
      rename_i h0
      rw [if_neg h0]
      by_cases h2 : bt t j1 = b
      · rw [if_pos h2] at e
        rw [if_pos (hu.same hb h2)]
        simp only [Option.some.injEq, Prod.mk.injEq] at e ⊢
        omega
      · rw [if_neg h2] at e
        by_cases h3 : bt t j1 = 44 ∧ many = true
        · rw [if_pos h3] at e
          have h4 := hu.same (by omega) h3.1
          have h5 : ¬ bt u (j1 + 3 : Nat) = b := by
            rw [hu.up j1 (bt_lt (by rw [h3.1]; omega))]; exact h2
          rw [if_neg h5, if_pos ⟨h4, h3.2⟩]
          have := hu.pEl_ hb hr m m' (j1 + 1) (max top k1) (cn + 1) j k (by omega) e
          rw [show j1 + 1 + 3 = j1 + 3 + 1 by omega] at this
          exact this
        · rw [if_neg h3] at e; cases e
theorem Ahd.pF_ (h : Ahd X s s') (g : Gram s) (hu : Tx X t u) {most : Int} {r r' : Nat → Nat → Option (Nat × Nat)} (hr : ∀ x, RdA (r x) (r' (x + 4))) (f : Nat) (hf : isF s f = true) : RdA (pF s t most r f) (pF s' u most r' (f + 4)) := by
  intro i j k e
  have hn := startN g
  have hnz : bt s f ≠ 0 := by
    intro e0; unfold isF at hf; rw [e0] at hf; exact absurd hf (by decide)
  unfold pF at e ⊢
  rw [h.up]
  by_cases h0 : bt t i = bt s f
  case neg => rw [if_pos h0] at e; cases e
  rw [if_neg (by simpa using h0)] at e
  rw [if_neg (by simpa using hu.same hnz h0)]
  split at e
  · rename_i hc
    rw [if_pos hc]
    simp only [Option.some.injEq, Prod.mk.injEq] at e ⊢
    omega
  rename_i hc
  rw [if_neg hc]
  split at e
  · rename_i hN
    rw [if_pos hN]
    obtain ⟨q, q1, _⟩ := g.name f hN
    unfold pN at e ⊢
    rw [h.up, h.rlu hn, q1, show (up4 (q : Int) + 2).toNat = ((q : Int) + 2).toNat + 4 by unfold up4; rw [if_neg (by omega)]; omega]
    rw [q1] at e
    by_cases h2 : bt t (i + 1 : Nat) = 40
    case neg => rw [if_pos h2] at e; cases e
    rw [if_neg (by simpa using h2)] at e
    have h3 := hu.same (by omega) h2
    rw [show i + 1 + 3 = i + 3 + 1 by omega] at h3
    rw [if_neg (by simpa using h3)]
    cases hq : r ((q : Int) + 2).toNat (i + 1 + 1) with
    | none => rw [hq] at e; cases e
    | some w =>
      obtain ⟨j1, k1⟩ := w
      rw [hq] at e
      have h4 := hr _ _ _ _ hq
      rw [show i + 1 + 1 + 3 = i + 3 + 1 + 1 by omega] at h4
      rw [h4]
      simp only at e ⊢
      by_cases h5 : bt t j1 = 41
      · rw [if_pos h5] at e
        rw [if_pos (hu.same (by omega) h5)]
        simp only [Option.some.injEq, Prod.mk.injEq] at e ⊢
        omega
      · rw [if_neg h5] at e; cases e
  · rename_i hN
    rw [if_neg hN]
    have hO : cC (bt s f) ≠ 0 := by
      unfold isF cO at hf
      simp [hc, hN] at hf
      exact hf
    unfold pB at e ⊢
    rw [h.up]
    split at e
    · rename_i h2
      have h3 := hu.same hO h2.1
      rw [show i + 1 + 3 = i + 3 + 1 by omega] at h3
      rw [if_pos ⟨h3, h2.2⟩]
      simp only [Option.some.injEq, Prod.mk.injEq] at e ⊢
      omega
    · rename_i h2
      have hil : i + 1 < t.size := by
        cases hm : t.size - (i + 1) with
        | zero => rw [hm] at e; cases e
        | succ n => omega
      rw [if_neg (by
        rintro ⟨h3, h4⟩
        rw [show i + 3 + 1 = i + 1 + 3 by omega, hu.up (i + 1) hil] at h3
        exact h2 ⟨h3, h4⟩)]
      have := hu.pEl_ hO (r' := r' (f + 1 + 4)) (hr (f + 1)) _ (u.size - (i + 3 + 1)) _ _ _ _ _ (by rw [hu.sz]; omega) e
      rw [show i + 1 + 3 = i + 3 + 1 by omega, show f + 1 + 4 = f + 4 + 1 by omega] at this
      exact this
theorem pFs_up {gg gg' : Nat → Nat → Option (Nat × Nat)} : ∀ (L : List Nat) (i top j k : Nat), (∀ f ∈ L, RdA (gg f) (gg' (f + 4))) → pFs gg L i top = some (j, k) → pFs gg' (L.map (· + 4)) (i + 3) top = some (j + 3, k)
  | [], i, top, j, k, _, e => by
    unfold pFs at e
    simp only [Option.some.injEq, Prod.mk.injEq] at e
    show some (i + 3, top) = _
    rw [e.1, e.2]
  | f :: L, i, top, j, k, hg, e => by
    rw [List.map_cons]
    unfold pFs at e ⊢
    cases hq : gg f i with
    | none => rw [hq] at e; cases e
    | some q =>
      obtain ⟨j1, k1⟩ := q
      rw [hq] at e
      rw [hg f (by simp) i j1 k1 hq]
      exact pFs_up L j1 _ j k (fun f' hf => hg f' (by simp [hf])) e
theorem Ahd.pE_ (h : Ahd X s s') (g : Gram s) (hu : Tx X t u) (most : Int) : ∀ n n' x, n ≤ n' → RdA (pE s t most n x) (pE s' u most n' (x + 4))
  | 0, n', x, _ => fun i j k e => by cases e
  | n + 1, 0, x, hl => by omega
  | n + 1, n' + 1, x, hl => fun i j k e => by
    unfold pE at e ⊢
    by_cases hc : cD (bt t i) = true
    case neg => rw [if_neg hc] at e; cases e
    rw [if_pos hc] at e
    have hi : i < t.size := bt_lt (by intro e0; rw [e0] at hc; exact absurd hc (by decide))
    rw [hu.up i hi, if_pos hc, h.ap_]
    cases hq : ap s (bt t i - 48).toNat x with
    | none => rw [hq] at e; cases e
    | some y =>
      rw [hq] at e
      simp only [Option.map_some] at e ⊢
      rw [h.fe_]
      have := pFs_up (gg' := pF s' u most (pE s' u most n')) _ _ _ _ _ (fun f hf => h.pF_ g hu (fun x => h.pE_ g hu most n n' x (by omega)) f (fe_mem hf).1) e
      rw [show i + 1 + 3 = i + 3 + 1 by omega] at this
      exact this
theorem pF_nameS {s t : ByteArray} {most : Int} {r : Nat → Nat → Option (Nat × Nat)} {f f' i : Nat} (hN : cN (bt s f) = true) (e : bt s f' = bt s f) : pF s t most r f' i = pF s t most r f i := by
  have hL : ¬ cL (bt s f) = true := by
    have hv : 65 ≤ bt s f ∧ bt s f ≤ 90 := by simpa [cN] using hN
    simp [cL]; omega
  unfold pF pN
  rw [e, if_neg hL, if_neg hL, if_pos hN, if_pos hN]
/-- the tree within the new start's is a tree, one higher -/
theorem Ahd.whole_ (h : Ahd X s s') (g : Gram s) (hu : Tx X t u) (hz : t.size + 4 ≤ 2000) {most : Int} {n : Nat} (e : whole s t most = some n) : whole s' u most = some (n + 1) := by
  have hn := startN g
  have hp : pF s t most (pE s t most (t.size + 1)) 0 0 = some (t.size, n) := by
    unfold whole at e
    rw [if_neg (by omega)] at e
    cases hq : pF s t most (pE s t most (t.size + 1)) 0 0 with
    | none => rw [hq] at e; cases e
    | some q =>
      obtain ⟨j, k⟩ := q
      rw [hq] at e
      simp only at e
      split at e
      · rename_i hj
        simp only [Option.some.injEq] at e
        rw [hj, e]
      · cases e
  have hz' := hu.sz
  have h1 := h.pF_ g hu (fun x => h.pE_ g hu most (t.size + 1) u.size x (by omega)) 0 (startF g) 0 _ _ hp
  have h2 : pF s' u most (pE s' u most u.size) 2 3 = some (t.size + 3, n) := by
    rw [pF_nameS (f := 0 + 4) (f' := 2) (by rw [h.up]; exact hn) (by rw [h.up, h.b2])]
    exact h1
  have h3 : pE s' u most (u.size + 1) 2 2 = some (t.size + 3, n) := by
    unfold pE
    rw [hu.b2, if_pos (by decide)]
    show (match ap s' 0 2 with | none => none | some a => pFs (pF s' u most (pE s' u most u.size)) (fe s' a).1 (2 + 1) 0) = _
    show pFs (pF s' u most (pE s' u most u.size)) (fe s' 2).1 3 0 = _
    rw [h.fe2 hn]
    unfold pFs
    rw [h2]
    simp only
    unfold pFs
    simp
  have h4 : pF s' u most (pE s' u most (u.size + 1)) 0 0 = some (t.size + 4, n + 1) := by
    have hL : ¬ cL X = true := by
      have hv : 65 ≤ X ∧ X ≤ 90 := by simpa [cN] using h.hX
      simp [cL]; omega
    unfold pF
    rw [hu.b0, h.b0, if_neg (by simp), if_neg hL, if_pos h.hX]
    unfold pN
    rw [h.b0, h.rlX]
    show (if bt u (1 : Nat) ≠ 40 then none else match pE s' u most (u.size + 1) 2 2 with | none => none | some (j, h) => if bt u j = 41 then some (j + 1, h + 1) else none) = _
    rw [hu.b1, if_neg (by simp), h3]
    simp only
    rw [if_pos hu.last]
  unfold whole
  rw [if_neg (by omega), h4]
  simp only
  rw [if_pos hz'.symm]
end
end Go.Proofs.YtnfaiaoipeholaaGreat
/- A start ahead of the start: the choices. No Go here. -/
namespace Go.Proofs.YtnfaiaoipeholaaGreat
section
variable {X : Int} {s s' t u : ByteArray}
theorem nm_not {c : Int} (h : cN c = true) : ¬ cL c = true := by
  have hv : 65 ≤ c ∧ c ≤ 90 := by simpa [cN] using h
  simp [cL]; omega
/-- the digits of what is read -/
def DgS (r : Nat → Option (Nat × Nat)) (d d' : Nat → List Int) : Prop := ∀ i j k, r i = some (j, k) → d' (i + 3) = d i
theorem dFs_up {g g' : Nat → Nat → Option (Nat × Nat)} {dg dg' : Nat → Nat → List Int} : ∀ (L : List Nat) (i top j k : Nat), (∀ f ∈ L, RdA (g f) (g' (f + 4)) ∧ DgS (g f) (dg f) (dg' (f + 4))) → pFs g L i top = some (j, k) → dFs g' dg' (L.map (· + 4)) (i + 3) = dFs g dg L i
  | [], i, top, j, k, _, e => rfl
  | f :: L, i, top, j, k, hg, e => by
    rw [List.map_cons]
    unfold pFs at e
    cases hq : g f i with
    | none => rw [hq] at e; cases e
    | some q =>
      obtain ⟨j1, k1⟩ := q
      rw [hq] at e
      have ih := dFs_up L j1 _ j k (fun f' hf => hg f' (by simp [hf])) e
      obtain ⟨h1, h2⟩ := hg f (by simp)
      unfold dFs
      rw [h1 i j1 k1 hq, h2 i j1 k1 hq, hq]
      simp only
      rw [ih]
theorem Tx.dEl_ (hu : Tx X t u) {r r' : Nat → Option (Nat × Nat)} {d d' : Nat → List Int} {b : Int} (hb : b ≠ 0) {many : Bool} (hr : RdA r r') (hd : DgS r d d') :
    ∀ m m' i top cn j k, m ≤ m' → pEl t r b many 0 m i top cn = some (j, k) → dEl u r' d' b m' (i + 3) = dEl t r d b m i ∧ nEl u r' b m' (i + 3) = nEl t r b m i
  | 0, m', i, top, cn, j, k, _, e => by cases e
  | m + 1, 0, i, top, cn, j, k, h, e => by omega
  | m + 1, m' + 1, i, top, cn, j, k, h, e => by
    unfold pEl at e
    cases hq : r i with
    | none => rw [hq] at e; cases e
    | some q =>
      obtain ⟨j1, k1⟩ := q
      rw [hq] at e
      simp only at e
      split at e
      · cases e
      unfold dEl nEl
      rw [hr i j1 k1 hq, hd i j1 k1 hq, hq]
      simp only
      by_cases h2 : bt t j1 = b
      · rw [if_pos h2, if_pos (hu.same hb h2), if_pos (hu.same hb h2), if_pos h2]; exact ⟨rfl, rfl⟩
      · rw [if_neg h2] at e
        by_cases h3 : bt t j1 = 44 ∧ many = true
        · rw [if_pos h3] at e
          have h5 : ¬ bt u (j1 + 3 : Nat) = b := by
            rw [hu.up j1 (bt_lt (by rw [h3.1]; omega))]; exact h2
          have := hu.dEl_ hb hr hd m m' (j1 + 1) (max top k1) (cn + 1) j k (by omega) e
          rw [show j1 + 1 + 3 = j1 + 3 + 1 by omega] at this
          rw [if_neg h5, if_neg h2, if_neg h5, if_neg h2, this.1, this.2]; exact ⟨rfl, rfl⟩
        · rw [if_neg h3] at e; cases e
theorem Ahd.dF_ (h : Ahd X s s') (g : Gram s) (h1 : bt s (1 : Nat) = 61) (hu : Tx X t u) {m : Nat} {r r' : Nat → Nat → Option (Nat × Nat)} {dr dr' : Nat → Nat → Nat → List Int} (hr : ∀ x, RdA (r x) (r' (x + 4))) (hd : ∀ l x, DgS (r x) (dr l x) (dr' l (x + 4))) (l f : Nat) (hf : isF s f = true) :
    DgS (pF s t 0 r f) (dF s t m r dr l f) (dF s' u m r' dr' l (f + 4)) := by
  intro i j k e
  have hn := startN g
  unfold pF at e
  split at e
  · cases e
  unfold dF
  rw [h.up]
  split at e
  · rename_i hc
    have hN : ¬ cN (bt s f) = true := by
      have hv : 97 ≤ bt s f ∧ bt s f ≤ 122 := by simpa [cL] using hc
      simp [cN]; omega
    have hO : ¬ cO (bt s f) = true := by
      intro ho
      have hv : 97 ≤ bt s f ∧ bt s f ≤ 122 := by simpa [cL] using hc
      have := cO_vals ho; omega
    rw [if_neg hN, if_neg hN, if_neg hO, if_neg hO]
  rename_i hc
  split at e
  · rename_i hN
    rw [if_pos hN, if_pos hN]
    obtain ⟨q, q1, _⟩ := g.name f hN
    unfold pN at e
    split at e
    · cases e
    cases hq : r (rl s (bt s f) + 2).toNat (i + 1 + 1) with
    | none => rw [hq] at e; cases e
    | some w =>
      obtain ⟨j1, k1⟩ := w
      have := hd (l - 1) _ _ _ _ hq
      rw [h.rlu hn, q1, show (up4 (q : Int) + 2).toNat = ((q : Int) + 2).toNat + 4 by unfold up4; rw [if_neg (by omega)]; omega]
      rw [q1] at this
      rw [show i + 3 + 2 = i + 1 + 1 + 3 by omega]
      exact this
  · rename_i hN
    have hO : cO (bt s f) = true := by
      unfold isF at hf
      simpa [hc, hN] using hf
    have hO' : cC (bt s f) ≠ 0 := by simpa [cO] using hO
    rw [if_neg hN, if_neg hN, if_pos hO, if_pos hO]
    unfold dB
    rw [h.cnt_ hn h1, h.up]
    unfold pB at e
    split at e
    · rename_i h2
      have h3 := hu.same hO' h2.1
      rw [show i + 1 + 3 = i + 3 + 1 by omega] at h3
      unfold nB
      rw [h.up, if_pos ⟨h3, h2.2⟩, if_pos h2, if_pos ⟨h3, h2.2⟩, if_pos h2]
    · rename_i h2
      have hil : i + 1 < t.size := by
        cases hm : t.size - (i + 1) with
        | zero => rw [hm] at e; cases e
        | succ n => omega
      have h6 : ¬ (bt u ((i + 3 + 1 : Nat) : Int) = cC (bt s f) ∧ (bt s f = 91 ∨ bt s f = 123)) := by
        rintro ⟨h3, h4⟩
        rw [show i + 3 + 1 = i + 1 + 3 by omega, hu.up (i + 1) hil] at h3
        exact h2 ⟨h3, h4⟩
      have := hu.dEl_ hO' (r' := r' (f + 1 + 4)) (hr (f + 1)) (hd l (f + 1)) _ (u.size - (i + 3 + 1)) _ _ _ _ _ (by rw [hu.sz]; omega) e
      rw [show i + 1 + 3 = i + 3 + 1 by omega, show f + 1 + 4 = f + 4 + 1 by omega] at this
      unfold nB
      rw [h.up, if_neg h6, if_neg h2, if_neg h6, if_neg h2, this.1, this.2]
theorem Ahd.wayIx_ (h : Ahd X s s') (hn : cN (bt s (0 : Nat)) = true) (h1 : bt s (1 : Nat) = 61) {l x k : Nat} (hk : k ≤ (sts s x).length) : wayIx s' l (x + 4) k = wayIx s l x k := by
  unfold wayIx
  congr 1
  refine List.filter_congr fun j hj => ?_
  have hj' : j < k := by simpa using hj
  rw [h.getD_ (by omega), h.fe_]
  exact h.altFit_ (h.nFit_ hn h1 l) (h.expFit_ (h.nFit_ hn h1 l)) _
theorem Ahd.dE_ (h : Ahd X s s') (g : Gram s) (h1 : bt s (1 : Nat) = 61) (hu : Tx X t u) (m : Nat) : ∀ n n' l x, n ≤ n' → DgS (pE s t 0 n x) (dE s t m n l x) (dE s' u m n' l (x + 4))
  | 0, n', l, x, _ => fun i j k e => by cases e
  | n + 1, 0, l, x, hl => by omega
  | n + 1, n' + 1, l, x, hl => fun i j k e => by
    have hn := startN g
    unfold pE at e
    by_cases hc : cD (bt t i) = true
    case neg => rw [if_neg hc] at e; cases e
    rw [if_pos hc] at e
    have hi : i < t.size := bt_lt (by intro e0; rw [e0] at hc; exact absurd hc (by decide))
    unfold dE
    rw [hu.up i hi, h.fitL_ hn h1, h.ap_]
    cases hq : ap s (bt t i - 48).toNat x with
    | none => rw [hq] at e; cases e
    | some y =>
      rw [hq] at e
      have hk : (bt t i - 48).toNat < (sts s x).length := by
        rw [sts_ap] at hq; exact (List.getElem?_eq_some_iff.1 hq).1
      simp only [Option.map_some] at e ⊢
      rw [h.wayIx_ hn h1 (by omega), h.fe_]
      have := dFs_up (g' := pF s' u 0 (pE s' u 0 n')) (dg := dF s t m (pE s t 0 n) (dE s t m n) l) (dg' := dF s' u m (pE s' u 0 n') (dE s' u m n') l) _ _ _ _ _ (fun f hf => ⟨h.pF_ g hu (fun x => h.pE_ g hu 0 n n' x (by omega)) f (fe_mem hf).1, h.dF_ g h1 hu (fun x => h.pE_ g hu 0 n n' x (by omega)) (fun l x => h.dE_ g h1 hu m n n' l x (by omega)) l f (fe_mem hf).1⟩) e
      rw [show i + 1 + 3 = i + 3 + 1 by omega] at this
      rw [this]
/-- the choices are the same -/
theorem Ahd.told_ (h : Ahd X s s') (g : Gram s) (h1 : bt s (1 : Nat) = 61) (hu : Tx X t u) {n : Nat} (e : whole s t 0 = some n) (l m : Nat) : told s' u (l + 1) m = told s t l m := by
  have hn := startN g
  have hX : cN X = true := h.hX
  obtain ⟨hp1, q, hq0, hq⟩ : bt t ((0 : Nat) : Int) = bt s (0 : Nat) ∧ ∃ q : Nat, rl s (bt s (0 : Nat)) = (q : Int) ∧ ∃ j k, pE s t 0 (t.size + 1) (rl s (bt s (0 : Nat)) + 2).toNat 2 = some (j, k) := by
    obtain ⟨q, q1, _⟩ := g.name 0 hn
    have hL : ¬ cL (bt s (0 : Nat)) = true := nm_not hn
    unfold whole at e
    split at e
    · cases e
    unfold pF at e
    by_cases hb : bt t ((0 : Nat) : Int) = bt s (0 : Nat)
    · rw [if_neg (by simpa using hb), if_neg hL, if_pos hn] at e
      refine ⟨hb, q, q1, ?_⟩
      unfold pN at e
      split at e
      · rename_i hnone
        split at hnone
        · cases e
        · cases e
      · rename_i j k hsome
        split at hsome
        · cases hsome
        · cases hr : pE s t 0 (t.size + 1) (rl s (bt s (0 : Nat)) + 2).toNat (0 + 1 + 1) with
          | none => rw [hr] at hsome; cases hsome
          | some w => exact ⟨w.1, w.2, rfl⟩
    · rw [if_pos hb] at e; cases e
  obtain ⟨j, k, hr⟩ := hq
  have hz := hu.sz
  have key := h.dE_ g h1 hu m (t.size + 1) u.size (l - 1) (rl s (bt s (0 : Nat)) + 2).toNat (by omega) 2 j k hr
  have hup : (rl s' (bt s (0 : Nat)) + 2).toNat = (rl s (bt s (0 : Nat)) + 2).toNat + 4 := by
    rw [h.rlu hn 0, hq0]; unfold up4; rw [if_neg (by omega)]; omega
  have hT : told s t l m = dE s t m (t.size + 1) (l - 1) (rl s (bt s (0 : Nat)) + 2).toNat 2 := by
    unfold told dF; rw [if_pos hn]
  have hU : told s' u (l + 1) m = dE s' u m (u.size + 1) l 2 2 := by
    unfold told dF
    rw [h.b0, if_pos hX, h.rlX]; rfl
  have hfl : (fitL s' l 2).length ≤ 1 := by
    unfold fitL
    rw [h.sts2 hn]
    refine Nat.le_trans (List.length_filter_le _ _) ?_
    simp
  have hstep : dE s' u m (u.size + 1) l 2 2 = dgt (fitL s' l 2).length (wayIx s' l 2 (bt u ((2 : Nat) : Int) - 48).toNat) ++ (match ap s' (bt u ((2 : Nat) : Int) - 48).toNat 2 with
    | none => []
    | some a => dFs (pF s' u 0 (pE s' u 0 u.size)) (dF s' u m (pE s' u 0 u.size) (dE s' u m u.size) l) (fe s' a).1 (2 + 1)) := rfl
  have hdg : ∀ w, dgt (fitL s' l 2).length w = [] := fun w => by unfold dgt; rw [if_neg (by omega)]
  have hd2 : dF s' u m (pE s' u 0 u.size) (dE s' u m u.size) l 2 3 = dE s' u m u.size (l - 1) (rl s' (bt s (0 : Nat)) + 2).toNat 5 := by
    unfold dF; rw [h.b2, if_pos hn]
  have hone : ∀ (G : Nat → Nat → Option (Nat × Nat)) (dg : Nat → Nat → List Int), dFs G dg [2] 3 = dg 2 3 := fun G dg => by
    show dg 2 3 ++ (match G 2 3 with | none => [] | some (j, _) => dFs G dg [] j) = _
    cases G 2 3 with
    | none => simp
    | some w => simp [dFs]
  rw [hT, hU, ← key, ← hup, hstep, hdg, hu.b2, List.nil_append]
  show dFs (pF s' u 0 (pE s' u 0 u.size)) (dF s' u m (pE s' u 0 u.size) (dE s' u m u.size) l) (fe s' 2).1 3 = _
  rw [h.fe2 hn, hone, hd2]
end
end Go.Proofs.YtnfaiaoipeholaaGreat
/- A start ahead of the start: all that Wrapped says. No Go here. -/
namespace Go.Proofs.YtnfaiaoipeholaaGreat
section
variable {X : Int} {s s' t u C : ByteArray}
theorem sgb (s : ByteArray) : ∀ n i, Byts (segF s n i)
  | 0, _ => Byts.nil
  | n + 1, i => Byts.cons (bt_byte s i) (sgb s n (i + 1))
/-- the wider grammar's bytes -/
def wdr (X : Int) (s : ByteArray) : List Int := X :: 61 :: bt s (0 : Nat) :: 59 :: seg s 0 s.size
/-- the wider tree's -/
def wtr (X : Int) (t : ByteArray) : List Int := X :: 40 :: 48 :: (seg t 0 t.size ++ [41])
theorem seg_at (t : ByteArray) {i : Nat} (h : i < (seg t 0 t.size).length) : (seg t 0 t.size)[i] = bt t i := by
  have := seg_get t (t.size - 0) 0 i h
  rw [Nat.zero_add] at this; exact this
theorem seg_len0 (t : ByteArray) : (seg t 0 t.size).length = t.size := by unfold seg; rw [segF_len]; omega
theorem ahd_of (hX : cN X = true) (hf : ∀ i : Nat, bt s i ≠ X) : Ahd X s (strOfNums (wdr X s)) := by
  have hv : 65 ≤ X ∧ X ≤ 90 := by simpa [cN] using hX
  have hB : Byts (wdr X s) := Byts.cons (by omega) (Byts.cons (by omega) (Byts.cons (bt_byte s 0) (Byts.cons (by omega) (sgb s _ _))))
  have hl : (wdr X s).length = s.size + 4 := by simp [wdr, seg_len0]
  have hz : (strOfNums (wdr X s)).size = s.size + 4 := by rw [strOfNums_size, hl]
  refine ⟨hX, hz, bt_strs hB (k := 0) (by omega), bt_strs hB (k := 1) (by omega), bt_strs hB (k := 2) (by omega), bt_strs hB (k := 3) (by omega), fun i => ?_, hf⟩
  by_cases hi : i < s.size
  · rw [bt_strs hB (k := i + 4) (by omega)]
    show (seg s 0 s.size)[i]'_ = _
    exact seg_at s _
  · rw [bt_out _ _ (by omega), bt_out _ _ (by omega)]
theorem tx_of (hX : cN X = true) : Tx X t (strOfNums (wtr X t)) := by
  have hv : 65 ≤ X ∧ X ≤ 90 := by simpa [cN] using hX
  have hB : Byts (wtr X t) := Byts.cons (by omega) (Byts.cons (by omega) (Byts.cons (by omega) (Byts.app (sgb t _ _) (Byts.cons (by omega) Byts.nil))))
  have hl : (wtr X t).length = t.size + 4 := by simp [wtr, seg_len0]
  refine ⟨by rw [strOfNums_size, hl], bt_strs hB (k := 0) (by omega), bt_strs hB (k := 1) (by omega), bt_strs hB (k := 2) (by omega), fun i hi => ?_, ?_⟩
  · rw [bt_strs hB (k := i + 3) (by omega)]
    show (seg t 0 t.size ++ [41])[i]'_ = _
    rw [List.getElem_append_left (by rw [seg_len0]; exact hi)]
    exact seg_at t _
  · rw [bt_strs hB (k := t.size + 3) (by omega)]
    show (seg t 0 t.size ++ [41])[t.size]'_ = _
    rw [List.getElem_append_right (by rw [seg_len0]; exact Nat.le_refl _)]
    simp [seg_len0]
theorem tl_shift : ∀ n i, (∀ k, i ≤ k → k < i + n → bt u (k + 3 : Nat) = bt t k) → tl u (i + 3) (i + 3 + n) = tl t i (i + n)
  | 0, i, _ => by show tl u (i + 3) (i + 3) = tl t i i; rw [tl_nil, tl_nil]
  | n + 1, i, h => by
    have ih := tl_shift n (i + 1) (fun k h1 h2 => h k (by omega) (by omega))
    rw [tl_join (t := u) (k := i + 3 + 1) (by omega) (by omega), tl_join (t := t) (k := i + 1) (by omega) (by omega), tl_one, tl_one, h i (Nat.le_refl _) (by omega)]
    rw [show i + 3 + 1 = i + 1 + 3 by omega, show i + 3 + (n + 1) = i + 1 + 3 + n by omega, show i + (n + 1) = i + 1 + n by omega, ih]
theorem Tx.wd_ (hX : cN X = true) (hu : Tx X t u) : wd u = wd t := by
  rw [wd_tl, wd_tl]
  have hz := hu.sz
  have hlX : cL X = false := by
    have hv : 65 ≤ X ∧ X ≤ 90 := by simpa [cN] using hX
    simp [cL]; omega
  have h1 : tl u 0 u.size = tl u 3 (t.size + 3) := by
    rw [tl_first (i := 0) (by omega) (by rw [hu.b0]; exact hlX), tl_first (i := 0 + 1) (by omega) (by have := hu.b1; rw [show ((0 + 1 : Nat) : Int) = ((1 : Nat) : Int) by omega, this]; decide), tl_first (i := 0 + 1 + 1) (by omega) (by have := hu.b2; rw [show ((0 + 1 + 1 : Nat) : Int) = ((2 : Nat) : Int) by omega, this]; decide)]
    rw [hz, show t.size + 4 = t.size + 3 + 1 by omega, tl_last (by omega) (by rw [hu.last]; decide)]
  have h2 := tl_shift (t := t) (u := u) t.size 0 (fun k _ hk => hu.up k (by omega))
  rw [h1]
  rw [Nat.zero_add, Nat.zero_add, Nat.add_comm 3 t.size] at h2
  rw [h2]
/-- Wrapped, as the document means it -/
theorem wrapped_ok (ha : Ahd X s s') (hu : Tx X t u) (hz : s.size + 4 ≤ 300) (hz2 : t.size + 4 ≤ 2000) {h m n : Nat} (hh : 1 ≤ h ∧ h ≤ 8) (hm : 1 ≤ m ∧ m ≤ 5) (hg : hgt s t = ((n : Int), 0)) (hr : rcl s t h m = (C, 0)) :
    (chk s').1 = 0 ∧ hgt s' u = ((n : Int) + 1, 0) ∧ rcl s' u ((h : Int) + 1) m = (C, 0) ∧ mk s' C ((h : Int) + 1) m = (u, 0) ∧ wd u = wd t := by
  obtain ⟨hk, n', hw, hn'⟩ := hgt_whole (s := s) (t := t) (by rw [hg])
  rw [hg] at hn'
  simp only at hn'
  have hnn : n' = n := by omega
  subst hnn
  have g := gram_of hk
  have h61 : bt s (1 : Nat) = 61 := (g.rule 0 g.pos (by simp [begB])).2.1
  have hk' : (chk s').1 = 0 := by rw [ha.chk_ hk hz]
  have hw' := ha.whole_ g hu hz2 hw
  unfold rcl at hr
  rw [hg, if_neg (by simp), if_neg (by omega)] at hr
  split at hr
  · simp at hr
  rename_i hc
  have hc' : ¬ ((h : Int) < (n' : Int) ∨ (m : Int) < (mx t : Int)) := hc
  have hC : strOfNums (told s t h m) = C := by
    have := congrArg Prod.fst hr
    simpa only [Int.toNat_natCast] using this
  have hG : Good t m 0 t.size := (mx_le t (most := (m : Int)) (by omega)).1 (by omega)
  have hwm : whole s t m = some n' := by
    rcases whole_most (s := s) (t := t) (most := (m : Int)) (by omega) (startF g) hw with ⟨q, _⟩ | ⟨_, q⟩
    · exact q
    · obtain ⟨p, p1, p2, p3, p4⟩ := q
      have := hG p p1 p2 p3
      omega
  have hwm' := ha.whole_ g hu hz2 hwm
  have g' := gram_of hk'
  have hG' : Good u m 0 u.size := by
    rcases whole_most (s := s') (t := u) (most := (m : Int)) (by omega) (startF g') hw' with ⟨_, q⟩ | ⟨q, _⟩
    · exact q
    · rw [hwm'] at q; cases q
  obtain ⟨a1, a2⟩ := told_ok (s := s') (t := u) (h := h + 1) (m := m) hk' (by omega) hm hw' (by omega) hG'
  rw [ha.told_ g h61 hu hw, hC] at a1 a2
  refine ⟨hk', ?_, ?_, ?_, hu.wd_ ha.hX⟩
  · rw [whole_hgt hk' hw']; simp
  · have e : ((h + 1 : Nat) : Int) = (h : Int) + 1 := by omega
    rw [e] at a1; exact a1
  · have e : ((h + 1 : Nat) : Int) = (h : Int) + 1 := by omega
    rw [e] at a2; exact a2
end
end Go.Proofs.YtnfaiaoipeholaaGreat
