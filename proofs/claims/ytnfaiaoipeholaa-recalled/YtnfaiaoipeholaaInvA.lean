/- What is made is a tree: it is read again. No Go here. -/
import Derived.Test.YtnfaiaoipeholaaRecMath4
namespace Go.Proofs.Ytnfaiaoipeholaa
/-- these bytes stand here -/
def At (t : ByteArray) (i : Nat) (L : List Int) : Prop := ∀ k (hk : k < L.length), bt t (i + k : Nat) = L[k]
section
variable {t : ByteArray}
theorem At.left {i : Nat} {A B : List Int} (h : At t i (A ++ B)) : At t i A := fun k hk => by
  have := h k (by simp; omega)
  rw [this, List.getElem_append_left hk]
theorem At.right {i : Nat} {A B : List Int} (h : At t i (A ++ B)) : At t (i + A.length) B := fun k hk => by
  have := h (A.length + k) (by simp; omega)
  rw [show i + A.length + k = i + (A.length + k) by omega, this, List.getElem_append_right (by omega)]
  simp
theorem At.head {i : Nat} {x : Int} {L : List Int} (h : At t i (x :: L)) : bt t i = x := by
  have := h 0 (by simp)
  simpa using this
theorem At.tail {i : Nat} {x : Int} {L : List Int} (h : At t i (x :: L)) : At t (i + 1) L := fun k hk => by
  have := h (k + 1) (by simp; omega)
  rw [show i + 1 + k = i + (k + 1) by omega, this]; rfl
end
/-- elements with commas ahead -/
def elsR (rec : Nat → Nat × List Int) : Nat → Nat → Nat × List Int
  | 0, a => (a, [])
  | k + 1, a => ((elsR rec k (rec a).1).1, 44 :: ((rec a).2 ++ (elsR rec k (rec a).1).2))
theorem elsR_snoc (rec : Nat → Nat × List Int) : ∀ k a, elsR rec (k + 1) a = ((rec (elsR rec k a).1).1, (elsR rec k a).2 ++ (44 :: (rec (elsR rec k a).1).2))
  | 0, a => by simp [elsR]
  | k + 1, a => by
    have ih := elsR_snoc rec k (rec a).1
    rw [show elsR rec (k + 1 + 1) a = ((elsR rec (k + 1) (rec a).1).1, 44 :: ((rec a).2 ++ (elsR rec (k + 1) (rec a).1).2)) from rfl, ih]
    simp [elsR]
theorem elsG_front (rec : Nat → Nat × List Int) (a : Nat) : ∀ k, elsG rec a (k + 1) = ((elsR rec k (rec a).1).1, (rec a).2 ++ (elsR rec k (rec a).1).2)
  | 0 => by simp [elsG, elsR]
  | k + 1 => by
    rw [show elsG rec a (k + 1 + 1) = ((rec (elsG rec a (k + 1)).1).1, (elsG rec a (k + 1)).2 ++ ((if k + 1 = 0 then [] else [44]) ++ (rec (elsG rec a (k + 1)).1).2)) from rfl, elsG_front rec a k, elsR_snoc]
    simp
section
variable {s c t : ByteArray} {m : Nat}
/-- what is read of what was made -/
def Reads (t : ByteArray) (m : Nat) (l i len : Nat) (r : Option (Nat × Nat)) : Prop := ∃ h, r = some (i + len, h) ∧ h ≤ l ∧ Good t m i (i + len)
theorem pEl_made {rec : Nat → Option (Nat × Nat)} {gen : Nat → Nat × List Int} {l lim : Nat} {b : Int} {many : Bool} (hb : cO b = false) (hb44 : b ≠ 44) (hg : ∀ i a, lim ≤ i → At t i (gen a).2 → i + (gen a).2.length ≤ t.size → 0 < (gen a).2.length ∧ Reads t m l i (gen a).2.length (rec i)) :
    ∀ k i a mm top cn, lim ≤ i → At t i ((gen a).2 ++ (elsR gen k (gen a).1).2 ++ [b]) → i + ((gen a).2 ++ (elsR gen k (gen a).1).2 ++ [b]).length ≤ t.size → t.size ≤ i + mm → (0 < k → many = true) → top ≤ l →
      nEl t rec b mm i = k + 1 ∧ ∃ h, pEl t rec b many 0 mm i top cn = some (i + ((gen a).2 ++ (elsR gen k (gen a).1).2 ++ [b]).length, h) ∧ h ≤ l ∧ Good t m i (i + ((gen a).2 ++ (elsR gen k (gen a).1).2 ++ [b]).length)
  | 0, i, a, mm, top, cn, hlim, hA, hsz, hmm, hmany, htop => by
    simp only [elsR, List.append_nil, List.length_append, List.length_cons, List.length_nil] at hA hsz ⊢
    obtain ⟨hpos, h, e1, e2, e3⟩ := hg i a hlim hA.left (by omega)
    have hbt : bt t (i + (gen a).2.length : Nat) = b := hA.right.head
    obtain ⟨m', rfl⟩ : ∃ m', mm = m' + 1 := ⟨mm - 1, by omega⟩
    refine ⟨by simp only [nEl, e1]; rw [if_pos hbt], max top h, ?_, by omega, e3.join (Good.plain (by rw [hbt]; exact hb))⟩
    unfold pEl
    rw [e1]
    simp only
    rw [if_neg (by omega), if_pos hbt]; rfl
  | k + 1, i, a, mm, top, cn, hlim, hA, hsz, hmany, hk, htop => by
    have hshape : (gen a).2 ++ (elsR gen (k + 1) (gen a).1).2 ++ [b] = (gen a).2 ++ (44 :: ((gen (gen a).1).2 ++ (elsR gen k (gen (gen a).1).1).2 ++ [b])) := by simp [elsR]
    rw [hshape] at hA hsz ⊢
    simp only [List.length_append, List.length_cons, List.length_nil] at hsz ⊢
    obtain ⟨hpos, h, e1, e2, e3⟩ := hg i a hlim hA.left (by omega)
    have hbt : bt t (i + (gen a).2.length : Nat) = 44 := hA.right.head
    obtain ⟨m', rfl⟩ : ∃ m', mm = m' + 1 := ⟨mm - 1, by omega⟩
    obtain ⟨n1, h', p1, p2, p3⟩ := pEl_made hb hb44 hg k (i + (gen a).2.length + 1) (gen a).1 m' (max top h) (cn + 1) (by omega) hA.right.tail (by simp only [List.length_append, List.length_cons, List.length_nil]; omega) (by omega) (fun _ => hk (by omega)) (by omega)
    simp only [List.length_append, List.length_cons, List.length_nil] at p1 p3
    refine ⟨by simp only [nEl, e1]; rw [if_neg (by omega), n1], h', ?_, p2, ?_⟩
    · unfold pEl
      rw [e1]
      simp only
      rw [if_neg (by omega), if_neg (by omega), if_pos ⟨hbt, hk (by omega)⟩, p1]
      congr 2; omega
    · have := (e3.join (Good.plain (i := i + (gen a).2.length) (by rw [hbt]; decide))).join p3
      refine fun q q1 q2 q3 => this q q1 (by omega) q3
theorem pFs_made {g : Nat → Nat → Option (Nat × Nat)} {gen : Nat → Nat → Nat × List Int} {l lim : Nat} : ∀ (L : List Nat) (i a top : Nat), lim ≤ i → (∀ f ∈ L, ∀ i a, lim ≤ i → At t i (gen f a).2 → i + (gen f a).2.length ≤ t.size → Reads t m l i (gen f a).2.length (g f i)) → At t i (facsG gen L a).2 → i + (facsG gen L a).2.length ≤ t.size → top ≤ l →
    ∃ h, pFs g L i top = some (i + (facsG gen L a).2.length, h) ∧ h ≤ l ∧ Good t m i (i + (facsG gen L a).2.length)
  | [], i, a, top, _, _, _, _, htop => ⟨top, by simp [pFs, facsG], htop, fun p h1 h2 _ => by simp [facsG] at h2; omega⟩
  | f :: L, i, a, top, hlim, hg, hA, hsz, htop => by
    simp only [facsG, List.length_append] at hA hsz ⊢
    obtain ⟨h, e1, e2, e3⟩ := hg f (by simp) i a hlim hA.left (by omega)
    obtain ⟨h', p1, p2, p3⟩ := pFs_made L (i + (gen f a).2.length) (gen f a).1 (max top h) (by omega) (fun f' hf' => hg f' (by simp [hf'])) hA.right (by omega) (by omega)
    refine ⟨h', ?_, p2, ?_⟩
    · unfold pFs
      rw [e1]
      simp only
      rw [p1]
      congr 2; omega
    · refine fun q q1 q2 q3 => (e3.join p3) q q1 (by omega) q3
/-- expressions, to this depth -/
def SaidI (s c t : ByteArray) (m N : Nat) : Prop :=
  ∀ n l x a i, expFit s (nFit s l) x = true → dep s l x < N → x ≤ s.size → (sts s x).length ≤ 10 → At t i (genE s c m N l x a).2 → i + (genE s c m N l x a).2.length ≤ t.size → t.size < i + n → Reads t m l i (genE s c m N l x a).2.length (pE s t 0 n x i)
theorem genE_pos {N l x a : Nat} (h : 0 < N) : 0 < (genE s c m N l x a).2.length := by
  cases N with
  | zero => omega
  | succ N => simp [genE]
theorem cnt_many (hm : 1 ≤ m ∧ m ≤ 5) {l f a : Nat} : few (bt s f) + wayN c a (cnt s m l f) ≤ m ∧ (1 < few (bt s f) + wayN c a (cnt s m l f) → bt s f ≠ 40 ∧ bt s f ≠ 91) := by
  have h1 : wayN c a (cnt s m l f) < cnt s m l f := wayN_lt c a _ (by unfold cnt; split <;> omega)
  have h2 : cnt s m l f ≤ grt m (bt s f) - few (bt s f) + 1 := by unfold cnt; split <;> omega
  unfold few grt at *
  by_cases e1 : bt s f = 40
  · simp only [e1] at h2 ⊢; simp at h2 ⊢; omega
  · by_cases e2 : bt s f = 91
    · simp only [e2] at h2 ⊢; simp at h2 ⊢; omega
    · rw [if_neg (by omega)] at h2
      split at h2 <;> (rename_i hh; simp only [hh]; simp; omega)
theorem few_fit' {l f : Nat} (hO : cO (bt s f) = true) (hf : facFit s (nFit s l) (expFit s (nFit s l)) f = true) (a : Nat) (h : 0 < few (bt s f) + wayN c a (cnt s m l f)) : expFit s (nFit s l) (f + 1) = true := by
  have hN : cN (bt s f) = false := by
    have := cO_vals hO
    simp [cN]; omega
  unfold facFit at hf
  rw [if_neg (by simp [hN])] at hf
  by_cases e : bt s f = 40 ∨ bt s f = 60
  · rw [if_pos e] at hf; exact hf
  · unfold few at h
    rw [if_neg e] at h
    by_cases h2 : expFit s (nFit s l) (f + 1) = true
    · exact h2
    · unfold cnt wayN at h
      rw [if_neg h2] at h
      simp at h
theorem genF_parse (g : Gram s) (ten : Ten s) (hm : 1 ≤ m ∧ m ≤ 5) {N : Nat} (hE : SaidI s c t m N) {n l x f a i : Nat} (hf : isF s f = true) (hfit : facFit s (nFit s l) (expFit s (nFit s l)) f = true) (hx : x ≤ f) (hd : dep s l x < N + 1)
    (hA : At t i (genF s c m (genE s c m N) l f a).2) (hsz : i + (genF s c m (genE s c m N) l f a).2.length ≤ t.size) (hn : t.size < i + 1 + n) : Reads t m l i (genF s c m (genE s c m N) l f a).2.length (pF s t 0 (pE s t 0 n) f i) := by
  have hfl := isF_lt hf
  have hd1 : dep s l (f + 1) < N := by have := dep_sub (s := s) (l := l) hx hfl; omega
  cases h2 : cN (bt s f)
  · cases h3 : cO (bt s f)
    · have hL : cL (bt s f) = true := by simpa [isF, h2, h3] using hf
      have hR : genF s c m (genE s c m N) l f a = (a, [bt s f]) := by unfold genF; rw [if_neg (by simp [h2]), if_neg (by simp [h3])]
      rw [hR] at hA hsz ⊢
      have hb := hA.head
      obtain ⟨n1, _, _⟩ := letter_not (c := bt t i) (by rw [hb, hL]; rfl)
      refine ⟨0, ?_, Nat.zero_le _, Good.plain n1⟩
      unfold pF
      rw [if_neg (by omega), if_pos hL]; rfl
    · have hL : cL (bt s f) = false := by have := cO_vals h3; simp [cL]; omega
      have hx' : cX (cC (bt s f)) = true := cX_cC _ (by simpa [cO] using h3)
      have hR : genF s c m (genE s c m N) l f a = ((genB s c m (genE s c m N) l f a).1, bt s f :: (genB s c m (genE s c m N) l f a).2) := by unfold genF; rw [if_neg (by simp [h2]), if_pos h3]
      rw [hR] at hA hsz ⊢
      simp only [List.length_cons] at hA hsz ⊢
      have hb := hA.head
      have hT := hA.tail
      obtain ⟨hcm1, hcm2⟩ := cnt_many (s := s) (c := c) hm (l := l) (f := f) (a := a)
      have hpF : pF s t 0 (pE s t 0 n) f i = pB s t 0 (pE s t 0 n) f (i + 1) := by
        unfold pF; rw [if_neg (by omega), if_neg (by simp [hL]), if_neg (by simp [h2])]
      have hcl : cO (cC (bt s f)) = false := (close_not hx').2.2.1
      have hffit := few_fit' (c := c) (m := m) h3 hfit a
      have hex : ∀ h j, pB s t 0 (pE s t 0 n) f (i + 1) = some (j, h) → els t i = nB s t (pE s t 0 n) f (i + 1) := fun h j e => els_bracket h3 e
      unfold genB at hT hsz ⊢
      generalize hC : few (bt s f) + wayN c a (cnt s m l f) = C at *
      generalize wayA a (cnt s m l f) = A at *
      cases C with
      | zero =>
        simp only [elsG, List.nil_append, List.length_cons, List.length_nil] at hT hsz ⊢
        have hb1 := hT.head
        have hk : bt s f = 91 ∨ bt s f = 123 := by
          have := cO_vals h3
          have hf0 : few (bt s f) = 0 := by omega
          unfold few at hf0
          split at hf0
          · omega
          · omega
        have hpB : pB s t 0 (pE s t 0 n) f (i + 1) = some (i + 1 + 1, 0) := by unfold pB; rw [if_pos ⟨hb1, hk⟩]
        refine ⟨0, by rw [hpF, hpB], Nat.zero_le _, ?_⟩
        have hel := hex _ _ hpB
        have : nB s t (pE s t 0 n) f (i + 1) = 0 := by unfold nB; rw [if_pos ⟨hb1, hk⟩]
        exact (Good.one (by rw [hel, this]; omega)).join (Good.plain (by rw [hb1]; exact hcl))
      | succ k =>
        have hxx := hffit (by omega)
        rw [elsG_front] at hT hsz ⊢
        simp only at hT hsz ⊢
        have hgen : ∀ i' a', i + 1 ≤ i' → At t i' (genE s c m N l (f + 1) a').2 → i' + (genE s c m N l (f + 1) a').2.length ≤ t.size → 0 < (genE s c m N l (f + 1) a').2.length ∧ Reads t m l i' (genE s c m N l (f + 1) a').2.length (pE s t 0 n (f + 1) i') := fun i' a' h3' h1 h2 => ⟨genE_pos (by omega), hE n l (f + 1) a' i' hxx hd1 (by omega) (ten.sub f h3) h1 h2 (by omega)⟩
        have hcl44 : cC (bt s f) ≠ 44 := by intro e; rw [e] at hx'; revert hx'; decide
        have hfirst := (hgen (i + 1) A (Nat.le_refl _) hT.left.left (by simp only [List.length_append, List.length_cons, List.length_nil] at hsz; omega)).2
        obtain ⟨hf1, e1, _, _⟩ := hfirst
        have hdig : bt t (i + 1 : Nat) ≠ cC (bt s f) := by
          cases n with
          | zero => cases e1
          | succ n =>
            obtain ⟨k', _, hbk, hk9, _⟩ := pE_parts e1
            have := cC_vals (bt s f)
            omega
        obtain ⟨n1, h, p1, p2, p3⟩ := pEl_made (m := m) (lim := i + 1) (rec := pE s t 0 n (f + 1)) (gen := genE s c m N l (f + 1)) (l := l) (b := cC (bt s f)) (many := decide (bt s f = 123 ∨ bt s f = 60)) hcl hcl44 hgen k (i + 1) A (t.size - (i + 1)) 0 0 (Nat.le_refl _) hT (by omega) (by omega) (fun hk => by
          have h4 := hcm2 (by omega)
          have := cO_vals h3
          simp; omega) (Nat.zero_le _)
        have hpB : pB s t 0 (pE s t 0 n) f (i + 1) = some (i + 1 + ((genE s c m N l (f + 1) A).2 ++ (elsR (genE s c m N l (f + 1)) k (genE s c m N l (f + 1) A).1).2 ++ [cC (bt s f)]).length, h) := by
          unfold pB; rw [if_neg (fun hh => hdig hh.1)]; exact p1
        have hel := hex _ _ hpB
        have hnB : nB s t (pE s t 0 n) f (i + 1) = k + 1 := by unfold nB; rw [if_neg (fun hh => hdig hh.1)]; exact n1
        refine ⟨h, by rw [hpF, hpB]; congr 2; omega, p2, ?_⟩
        have := (Good.one (most := (m : Int)) (by rw [hel, hnB]; omega)).join p3
        exact fun q q1 q2 q3 => this q q1 (by omega) q3
  · have hR : genF s c m (genE s c m N) l f a = ((genN s (genE s c m N) l f a).1, bt s f :: (genN s (genE s c m N) l f a).2) := by unfold genF; rw [if_pos h2]
    rw [hR] at hA hsz ⊢
    unfold genN at hA hsz ⊢
    have hL : cL (bt s f) = false := by
      have hv : 65 ≤ bt s f ∧ bt s f ≤ 90 := by simpa [cN] using h2
      simp [cL]; omega
    have hfn : nFit s l (bt s f - 65).toNat = true := by unfold facFit at hfit; rw [if_pos h2] at hfit; exact hfit
    have hv : 65 ≤ bt s f ∧ bt s f ≤ 90 := by simpa [cN] using h2
    obtain ⟨l', rfl⟩ : ∃ l', l = l' + 1 := by
      cases l with
      | zero => cases hfn
      | succ l' => exact ⟨l', rfl⟩
    obtain ⟨j, j1, j2, j3, _⟩ := g.name f h2
    have hex : expFit s (nFit s l') (j + 2) = true := by
      have h' : expFit s (nFit s l') (rl s (65 + (bt s f - 65).toNat : Nat) + 2).toNat = true := hfn
      rw [show ((65 + (bt s f - 65).toNat : Nat) : Int) = bt s f by omega, j1] at h'
      exact h'
    have hyy : (rl s (bt s f) + 2).toNat = j + 2 := by omega
    rw [hyy] at hA hsz ⊢
    simp only [Nat.add_sub_cancel, List.length_cons, List.length_append, List.length_nil] at hA hsz ⊢
    have hb := hA.head
    have hb1 := hA.tail.head
    have hin := hA.tail.tail.left
    have hb2 := hA.tail.tail.right.head
    have hdn : dep s l' (j + 2) < N := by have := dep_name (s := s) (l := l' + 1) (x := x) (y := j + 2) (by omega) (by omega); simp only [Nat.add_sub_cancel] at this; omega
    obtain ⟨h, e1, e2, e3⟩ := hE n l' (j + 2) a (i + 1 + 1) hex hdn (g.rule j j2 j3).2.2.1 (ten.rule j j2 j3) hin (by omega) (by omega)
    obtain ⟨n1, _, _⟩ := letter_not (c := bt t i) (by rw [hb, h2]; simp)
    have hone := els_name (i := i + 1) e1 hb2
    refine ⟨h + 1, ?_, by omega, ?_⟩
    · unfold pF pN
      rw [if_neg (by omega), if_neg (by simp [hL]), if_pos h2, if_neg (by omega), hyy, e1]
      simp only
      rw [if_pos hb2]
      congr 2; omega
    · have := (((Good.plain (most := (m : Int)) n1).join (Good.one (by rw [hone]; omega))).join e3).join (Good.plain (by rw [hb2]; decide))
      exact fun q q1 q2 q3 => this q q1 (by omega) q3
theorem genE_parse (g : Gram s) (ten : Ten s) (hm : 1 ≤ m ∧ m ≤ 5) : ∀ N, SaidI s c t m N
  | 0 => fun n l x a i _ hd => by omega
  | N + 1 => by
    intro n l x a i hfit hd hx h10 hA hsz hn
    obtain ⟨hG1, hG2⟩ := fitL_mem (gone_mem (c := c) (a := a) hfit)
    have hap : ap s (gone s c l x a) x = some ((sts s x).getD (gone s c l x a) 0) := by
      rw [sts_ap, List.getD_eq_getElem?_getD, List.getElem?_eq_getElem hG1]; rfl
    have hxa := (ap_bd hap).1
    unfold genE at hA hsz ⊢
    simp only [List.length_cons] at hA hsz ⊢
    have hb := hA.head
    obtain ⟨n', rfl⟩ : ∃ n', n = n' + 1 := ⟨n - 1, by omega⟩
    obtain ⟨h, p1, p2, p3⟩ := pFs_made (t := t) (m := m) (l := l) (lim := i + 1) (g := pF s t 0 (pE s t 0 n')) (gen := genF s c m (genE s c m N) l) (fe s ((sts s x).getD (gone s c l x a) 0)).1 (i + 1) (wayA a (fitL s l x).length) 0 (Nat.le_refl _)
      (fun f hf i' a' hlim h1 h2 => genF_parse g ten hm (genE_parse g ten hm N) (x := x) (fe_mem hf).1 (hG2 f hf) (by have := (fe_mem hf).2; omega) (by omega) h1 h2 (by omega)) hA.tail (by omega) (Nat.zero_le _)
    obtain ⟨n1, _, _⟩ := letter_not (c := bt t i) (by rw [hb]; simp [cL, cN, cD]; omega)
    refine ⟨h, ?_, p2, ?_⟩
    · unfold pE
      rw [if_pos (by rw [hb]; simp [cD]; omega), show (bt t i - 48).toNat = gone s c l x a by omega, hap]
      simp only
      rw [p1]
      congr 2; omega
    · have := (Good.plain (most := (m : Int)) n1).join p3
      exact fun q q1 q2 q3 => this q q1 (by omega) q3
end
end Go.Proofs.Ytnfaiaoipeholaa
