/- The choices that are told of a tree make it again. No Go here. -/
import Derived.Test.YtnfaiaoipeholaaInvA
namespace Go.Proofs.Ytnfaiaoipeholaa
/-- the bytes of a text, from a place to another -/
def segF (t : ByteArray) : Nat → Nat → List Int
  | 0, _ => []
  | n + 1, i => bt t i :: segF t n (i + 1)
def seg (t : ByteArray) (i j : Nat) : List Int := segF t (j - i) i
theorem segF_add (t : ByteArray) : ∀ a b i, segF t (a + b) i = segF t a i ++ segF t b (i + a)
  | 0, b, i => by simp [segF]
  | a + 1, b, i => by
    rw [show a + 1 + b = (a + b) + 1 by omega]
    show bt t i :: segF t (a + b) (i + 1) = _
    rw [segF_add t a b (i + 1), show i + 1 + a = i + (a + 1) by omega]; rfl
theorem seg_app {t : ByteArray} {i j k : Nat} (h1 : i ≤ j) (h2 : j ≤ k) : seg t i k = seg t i j ++ seg t j k := by
  unfold seg
  rw [show k - i = (j - i) + (k - j) by omega, segF_add, show i + (j - i) = j by omega]
theorem seg_one (t : ByteArray) (i : Nat) : seg t i (i + 1) = [bt t i] := by unfold seg; rw [show i + 1 - i = 1 by omega]; rfl
theorem seg_self (t : ByteArray) (i : Nat) : seg t i i = [] := by unfold seg; rw [show i - i = 0 by omega]; rfl
theorem segF_len (t : ByteArray) : ∀ n i, (segF t n i).length = n
  | 0, i => rfl
  | n + 1, i => by simp [segF, segF_len t n]
theorem Good.sub {t : ByteArray} {most : Int} {i j i' j' : Nat} (h : Good t most i j) (h1 : i ≤ i') (h2 : j' ≤ j) : Good t most i' j' := fun p a b c => h p (by omega) (by omega) c
theorem dig_of {c : ByteArray} {a w : Nat} (h : bt c a = 48 + (w : Int)) (hw : w ≤ 9) : dig c a = w := by
  unfold dig; rw [h, if_pos (by simp [cD]; omega)]; omega
/-- the way is the digit's own number -/
theorem way_back {c : ByteArray} {a n w : Nat} (hA : At c a (dgt n w)) (hw : w < n) (hn : n ≤ 10) : wayN c a n = w ∧ wayA a n = a + (dgt n w).length := by
  unfold wayN wayA
  unfold dgt at hA ⊢
  by_cases h : 1 < n
  · rw [if_pos h] at hA ⊢
    have hb := hA.head
    rw [if_neg (by omega), if_neg (by omega), dig_of hb (by omega), Nat.mod_eq_of_lt hw]
    exact ⟨rfl, rfl⟩
  · rw [if_neg h]
    rw [if_pos (by omega), if_pos (by omega)]
    exact ⟨by omega, rfl⟩
section
variable {s c t : ByteArray} {m : Nat}
theorem pFs_back {g : Nat → Nat → Option (Nat × Nat)} {dg : Nat → Nat → List Int} {gen : Nat → Nat → Nat × List Int} {l : Nat} : ∀ (L : List Nat) (i a top j h : Nat), (∀ f ∈ L, ∀ i j h, g f i = some (j, h) → i < j) → (∀ f ∈ L, ∀ i j h a, g f i = some (j, h) → h ≤ l → Good t m i j → At c a (dg f i) → gen f a = (a + (dg f i).length, seg t i j)) → pFs g L i top = some (j, h) → h ≤ l → Good t m i j → At c a (dFs g dg L i) →
    facsG gen L a = (a + (dFs g dg L i).length, seg t i j)
  | [], i, a, top, j, h, _, _, e, _, _, _ => by
    simp only [pFs, Option.some.injEq, Prod.mk.injEq] at e
    rw [← e.1]; simp [facsG, dFs, seg_self]
  | f :: L, i, a, top, j, h, hlt, hg, e, hl, hG, hA => by
    unfold pFs at e
    cases hq : g f i with
    | none => rw [hq] at e; cases e
    | some q =>
      obtain ⟨a1, k⟩ := q
      rw [hq] at e
      simp only at e
      have hkl := (pFs_parts _ _ _ _ _ e).1
      have hd : dFs g dg (f :: L) i = dg f i ++ dFs g dg L a1 := by simp only [dFs, hq]
      rw [hd] at hA ⊢
      have h1 := hlt f (by simp) i a1 k hq
      have h2 := pFs_le L a1 (max top k) j h (fun f' hf' => hlt f' (by simp [hf'])) e
      have e1 := hg f (by simp) i a1 k a hq (by omega) (hG.sub (Nat.le_refl _) h2) hA.left
      have e2 := pFs_back L a1 (a + (dg f i).length) (max top k) j h (fun f' hf' => hlt f' (by simp [hf'])) (fun f' hf' => hg f' (by simp [hf'])) e hl (hG.sub (by omega) (Nat.le_refl _)) hA.right
      unfold facsG
      rw [e1]
      simp only
      rw [e2, seg_app (Nat.le_of_lt h1) h2]
      simp only [List.length_append, Prod.mk.injEq, and_true]; omega
theorem pEl_back {rec : Nat → Option (Nat × Nat)} {dr : Nat → List Int} {gen : Nat → Nat × List Int} {l : Nat} {b : Int} {many : Bool} (hlt : ∀ i j h, rec i = some (j, h) → i < j) (hg : ∀ i j h a, rec i = some (j, h) → h ≤ l → Good t m i j → At c a (dr i) → gen a = (a + (dr i).length, seg t i j)) :
    ∀ mm i top cn j h a, pEl t rec b many 0 mm i top cn = some (j, h) → h ≤ l → Good t m i j → At c a (dEl t rec dr b mm i) → ∃ k, nEl t rec b mm i = k + 1 ∧ (elsR gen k (gen a).1).1 = a + (dEl t rec dr b mm i).length ∧ (gen a).2 ++ (elsR gen k (gen a).1).2 ++ [b] = seg t i j ∧ (many = false → k = 0)
  | 0, i, top, cn, j, h, a, e, _, _, _ => by cases e
  | mm + 1, i, top, cn, j, h, a, e, hl, hG, hA => by
    obtain ⟨m', a1, k1, hm, hq, hk1, hc⟩ := pEl_parts e dr
    have hm' : m' = mm := by omega
    subst hm'
    have h1 := hlt i a1 k1 hq
    have hj := (pEl_gt hlt _ _ _ _ _ _ e).2 a1 k1 hq
    rcases hc with ⟨hb, c1, c2, c3⟩ | ⟨hb, hb44, c1, c2, c3⟩
    · rw [c3] at hA ⊢
      have e1 := hg i a1 k1 a hq (by omega) (hG.sub (Nat.le_refl _) (by omega)) hA
      refine ⟨0, c2, by rw [e1]; rfl, ?_, fun _ => rfl⟩
      rw [e1, c1, seg_app (Nat.le_of_lt h1) (Nat.le_succ a1), seg_one, hb]
      simp [elsR]
    · rw [c3] at hA ⊢
      have e1 := hg i a1 k1 a hq (by omega) (hG.sub (Nat.le_refl _) (by omega)) hA.left
      obtain ⟨k, d1, d2, d3, _⟩ := pEl_back hlt hg m' (a1 + 1) (max top k1) (cn + 1) j h (a + (dr i).length) c1 hl (hG.sub (by omega) (Nat.le_refl _)) hA.right
      have hj2 := (pEl_gt hlt _ _ _ _ _ _ c1).1
      refine ⟨k + 1, by rw [c2, d1], ?_, ?_, fun hmn => ?_⟩
      · rw [e1]
        simp only [elsR]
        rw [d2]; simp only [List.length_append]; omega
      · rw [e1]
        simp only [elsR]
        rw [seg_app (Nat.le_of_lt h1) (by omega : a1 ≤ j), seg_app (Nat.le_succ a1) (by omega : a1 + 1 ≤ j), seg_one, hb44, ← d3]
        simp
      · exfalso
        subst hmn
        unfold pEl at e
        rw [hq] at e
        simp only at e
        rw [if_neg (by omega), if_neg hb, if_neg (by simp)] at e
        cases e
theorem nEl_single {rec : Nat → Option (Nat × Nat)} {b : Int} {mm i top j h : Nat} {cn : Int} (e : pEl t rec b false 0 mm i top cn = some (j, h)) : nEl t rec b mm i ≤ 1 := by
  cases mm with
  | zero => cases e
  | succ mm =>
    unfold pEl at e
    cases hq : rec i with
    | none => rw [hq] at e; cases e
    | some q =>
      obtain ⟨a, k⟩ := q
      rw [hq] at e
      simp only at e
      rw [if_neg (by omega)] at e
      simp only [nEl, hq]
      split at e
      · rename_i hb; rw [if_pos hb]; omega
      · rw [if_neg (by simp)] at e; cases e
/-- expressions, to this depth -/
def SaidJ (s c t : ByteArray) (m N : Nat) : Prop :=
  ∀ n l x i j h a, pE s t 0 n x i = some (j, h) → h ≤ l → l ≤ 9 → dep s l x < N → x ≤ s.size → (sts s x).length ≤ 10 → Good t m i j → At c a (dE s t m n l x i) → genE s c m N l x a = (a + (dE s t m n l x i).length, seg t i j)
theorem cnt_back (hm : 1 ≤ m ∧ m ≤ 5) {n l f i j h : Nat} (hO : cO (bt s f) = true) (e : pB s t 0 (pE s t 0 n) f i = some (j, h)) (hl : h ≤ l) (hC : nB s t (pE s t 0 n) f i ≤ m) (hone : (bt s f = 40 ∨ bt s f = 91) → nB s t (pE s t 0 n) f i ≤ 1) : few (bt s f) ≤ nB s t (pE s t 0 n) f i ∧ nB s t (pE s t 0 n) f i - few (bt s f) < cnt s m l f := by
  have hfew : few (bt s f) ≤ 1 := by unfold few; split <;> omega
  have h1 : few (bt s f) = 1 → 1 ≤ nB s t (pE s t 0 n) f i := fun hf => nB_one hf hO e
  unfold cnt
  by_cases hx : expFit s (nFit s l) (f + 1) = true
  · rw [if_pos hx]
    have hg : nB s t (pE s t 0 n) f i ≤ grt m (bt s f) := by
      unfold grt; split
      · rename_i hh; exact hone hh
      · exact hC
    omega
  · rw [if_neg hx]
    have h0 := nB_none e hl (by simpa using hx)
    omega
theorem genF_back (g : Gram s) (ten : Ten s) (hm : 1 ≤ m ∧ m ≤ 5) {N : Nat} (hE : SaidJ s c t m N) {n l x f i j h a : Nat} (hf : isF s f = true) (hp : pF s t 0 (pE s t 0 n) f i = some (j, h)) (hl : h ≤ l) (hl9 : l ≤ 9) (hx : x ≤ f) (hd : dep s l x < N + 1) (hG : Good t m i j)
    (hA : At c a (dF s t m (pE s t 0 n) (dE s t m n) l f i)) : genF s c m (genE s c m N) l f a = (a + (dF s t m (pE s t 0 n) (dE s t m n) l f i).length, seg t i j) := by
  have hfl := isF_lt hf
  have hd1 : dep s l (f + 1) < N := by have := dep_sub (s := s) (l := l) hx hfl; omega
  have hlt := (pF_fwd (most := 0) (fun x i => pE_fwd s t 0 n x i) hf j h hp).1
  have hnz : bt s f ≠ 0 := by intro e; rw [isF, e] at hf; exact absurd hf (by decide)
  unfold pF at hp
  split at hp
  · cases hp
  rename_i hbt
  have hbt' : bt t i = bt s f := by omega
  have hit : i < t.size := bt_lt (by omega)
  cases h2 : cN (bt s f)
  · cases h3 : cO (bt s f)
    · have hL : cL (bt s f) = true := by simpa [isF, h2, h3] using hf
      rw [if_pos hL] at hp
      simp only [Option.some.injEq, Prod.mk.injEq] at hp
      unfold genF dF
      rw [if_neg (by simp [h2]), if_neg (by simp [h3]), if_neg (by simp [h2]), if_neg (by simp [h3]), ← hp.1, seg_one, hbt']; rfl
    · have hL : cL (bt s f) = false := by have := cO_vals h3; simp [cL]; omega
      rw [if_neg (by simp [hL]), if_neg (by simp [h2])] at hp
      have hOi : cO (bt t i) = true := by rw [hbt']; exact h3
      have hel := els_bracket (i := i) h3 hp
      have hGi := hG i (Nat.le_refl _) hlt hOi
      have hone : (bt s f = 40 ∨ bt s f = 91) → nB s t (pE s t 0 n) f (i + 1) ≤ 1 := fun hk => by
        have hp' := hp
        unfold pB at hp'
        unfold nB
        split at hp'
        · rename_i hh; rw [if_pos hh]; omega
        · rename_i hh
          rw [if_neg hh]
          rw [show decide (bt s f = 123 ∨ bt s f = 60) = false by simp; omega] at hp'
          exact nEl_single hp'
      obtain ⟨hc1, hc2⟩ := cnt_back hm h3 hp hl (by omega) hone
      have hcb : cnt s m l f ≤ 6 := by unfold cnt grt few; split <;> (try split) <;> (try split) <;> omega
      unfold genF dF
      unfold dF at hA
      rw [if_neg (by simp [h2]), if_pos h3] at hA
      rw [if_neg (by simp [h2]), if_pos h3, if_neg (by simp [h2]), if_pos h3]
      unfold dB at hA ⊢
      obtain ⟨hw1, hw2⟩ := way_back hA.left hc2 (by omega)
      unfold genB
      rw [hw1, hw2, show few (bt s f) + (nB s t (pE s t 0 n) f (i + 1) - few (bt s f)) = nB s t (pE s t 0 n) f (i + 1) by omega]
      have hA2 := hA.right
      have hjj : i + 1 < j := (pB_fwd (most := 0) (fun x i => pE_fwd s t 0 n x i) (by simpa [cO] using h3) j h hp).1
      unfold pB at hp
      split at hp
      · rename_i hh
        simp only [Option.some.injEq, Prod.mk.injEq] at hp
        have hn0 : nB s t (pE s t 0 n) f (i + 1) = 0 := by unfold nB; rw [if_pos hh]
        rw [if_pos hh, hn0, ← hp.1, seg_app (Nat.le_succ i) (by omega : i + 1 ≤ i + 1 + 1), seg_one, seg_one, hh.1, hbt']
        simp [elsG]
      · rename_i hh
        rw [if_neg hh] at hA2 ⊢
        obtain ⟨k, d1, d2, d3, _⟩ := pEl_back (c := c) (rec := pE s t 0 n (f + 1)) (gen := genE s c m N l (f + 1)) (dr := dE s t m n l (f + 1)) (l := l) (fun i j h e => (pE_fwd s t 0 n (f + 1) i j h e).1) (fun i' j' h' a' e' hl' hG' hA' => hE n l (f + 1) i' j' h' a' e' hl' hl9 hd1 (by omega) (ten.sub f h3) hG' hA') _ _ _ _ _ _ _ hp hl (hG.sub (Nat.le_succ i) (Nat.le_refl _)) hA2
        have hnk : nB s t (pE s t 0 n) f (i + 1) = k + 1 := by unfold nB; rw [if_neg hh]; exact d1
        rw [hnk] at d2 d3
        rw [hnk, elsG_front]
        simp only
        rw [seg_app (Nat.le_succ i) (by omega : i + 1 ≤ j), seg_one, hbt', ← d3, d2]
        simp only [List.length_append, Prod.mk.injEq]
        exact ⟨by omega, rfl⟩
  · have hL : cL (bt s f) = false := by
      have hv : 65 ≤ bt s f ∧ bt s f ≤ 90 := by simpa [cN] using h2
      simp [cL]; omega
    rw [if_neg (by simp [hL]), if_pos h2] at hp
    obtain ⟨jr, j1, j2, j3, _⟩ := g.name f h2
    have hyy : (rl s (bt s f) + 2).toNat = jr + 2 := by omega
    unfold pN at hp
    split at hp
    · cases hp
    rename_i h40
    have h40' : bt t (i + 1 : Nat) = 40 := by omega
    rw [hyy] at hp
    cases hq : pE s t 0 n (jr + 2) (i + 1 + 1) with
    | none => rw [hq] at hp; cases hp
    | some q =>
      obtain ⟨a1, k⟩ := q
      rw [hq] at hp
      simp only at hp
      split at hp
      case isFalse => cases hp
      rename_i h41
      simp only [Option.some.injEq, Prod.mk.injEq] at hp
      obtain ⟨hp1, hp2⟩ := hp
      unfold genF dF
      unfold dF at hA
      rw [if_pos h2, hyy] at hA
      rw [if_pos h2, if_pos h2, hyy]
      unfold genN
      rw [hyy]
      have hdn : dep s (l - 1) (jr + 2) < N := by have := dep_name (s := s) (l := l) (x := x) (y := jr + 2) (by omega) (by omega); omega
      have hfw := (pE_fwd s t 0 n _ _ a1 k hq).1
      have e1 := hE n (l - 1) (jr + 2) (i + 1 + 1) a1 k a hq (by omega) (by omega) hdn (g.rule jr j2 j3).2.2.1 (ten.rule jr j2 j3) (hG.sub (by omega) (by omega)) hA
      rw [e1, ← hp1, seg_app (Nat.le_succ i) (by omega : i + 1 ≤ a1 + 1), seg_one, hbt', seg_app (Nat.le_succ (i + 1)) (by omega : i + 1 + 1 ≤ a1 + 1), seg_one, h40', seg_app (by omega : i + 1 + 1 ≤ a1) (Nat.le_succ a1), seg_one, h41]
      rfl
theorem fit_idx {p : Nat → Bool} {k : Nat} (hp : p k = true) : ∀ len, k < len → ((List.range len).filter p)[((List.range k).filter p).length]? = some k
  | 0, h => by omega
  | len + 1, h => by
    rw [List.range_succ, List.filter_append]
    by_cases e : k = len
    · subst e; simp [List.filter, hp]
    · have ih := fit_idx hp len (by omega)
      rw [List.getElem?_append_left (List.getElem?_eq_some_iff.1 ih).1]; exact ih
theorem genE_back (g : Gram s) (ten : Ten s) (hm : 1 ≤ m ∧ m ≤ 5) : ∀ N, SaidJ s c t m N
  | 0 => fun n l x i j h a _ _ _ hd => by omega
  | N + 1 => by
    intro n l x i j h a hp hl hl9 hd hx h10 hG hA
    cases n with
    | zero => cases hp
    | succ n =>
      obtain ⟨K, y, hbk, hk9, hka, hpf⟩ := pE_parts hp
      obtain ⟨hKlen, hKfit⟩ := pE_mem hka hpf hl
      have hij := (pE_fwd s t 0 (n + 1) x i j h hp).1
      have hyK : (sts s x)[K]?.getD 0 = y := by rw [← sts_ap, hka]; rfl
      have hat : (fitL s l x)[wayIx s l x K]? = some K := fit_idx (p := fun j => altFit s (nFit s l) (expFit s (nFit s l)) (fe s ((sts s x).getD j 0)).1) (by simpa [hyK] using hKfit) _ hKlen
      have hIx := (List.getElem?_eq_some_iff.1 hat).1
      have hLle := fitL_len s l x
      have hxy := (ap_bd hka).1
      have hle1 := pFs_le (fe s y).1 (i + 1) 0 j h (fun f hf i j h e => (pF_fwd (most := 0) (fun x i => pE_fwd s t 0 n x i) (fe_mem hf).1 j h e).1) hpf
      unfold dE at hA ⊢
      rw [show (bt t i - 48).toNat = K by omega, hka] at hA ⊢
      simp only at hA ⊢
      obtain ⟨hw1, hw2⟩ := way_back hA.left hIx (by omega)
      have hgone : gone s c l x a = K := by
        unfold gone; rw [hw1, List.getD_eq_getElem?_getD, hat]; rfl
      unfold genE
      rw [hgone, List.getD_eq_getElem?_getD, hyK, hw2]
      have e1 := pFs_back (c := c) (t := t) (m := m) (l := l) (gen := genF s c m (genE s c m N) l) (fe s y).1 (i + 1) (a + (dgt (fitL s l x).length (wayIx s l x K)).length) 0 j h
        (fun f hf i j h e => (pF_fwd (most := 0) (fun x i => pE_fwd s t 0 n x i) (fe_mem hf).1 j h e).1)
        (fun f hf i' j' h' a' e' hl' hG' hA' => genF_back g ten hm (genE_back g ten hm N) (x := x) (fe_mem hf).1 e' hl' hl9 (by have := (fe_mem hf).2; omega) (by omega) hG' hA')
        hpf hl (hG.sub (Nat.le_succ i) (Nat.le_refl _)) hA.right
      rw [e1, seg_app (Nat.le_succ i) hle1, seg_one, hbk]
      simp only [List.length_append, Prod.mk.injEq]
      exact ⟨Nat.add_assoc _ _ _, rfl⟩
end
end Go.Proofs.Ytnfaiaoipeholaa
