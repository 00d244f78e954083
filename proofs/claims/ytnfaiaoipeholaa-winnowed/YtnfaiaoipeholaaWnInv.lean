/- What is made is a tree: it is read again. No Go here. -/
import Derived.Test.YtnfaiaoipeholaaWnRcm
namespace Go.Proofs.Ytnfaiaoipeholaa
/-- these bytes stand here -/
def At (t : ByteArray) (i : Nat) (L : List Int) : Prop := ∀ k (hk : k < L.length), bt t (i + k : Nat) = L[k]
section
variable {t : ByteArray}
theorem At.left {i : Nat} {A B : List Int} (h : At t i (A ++ B)) : At t i A := fun k hk => by
  have := h k (by simp; omega)
  rw [this, List.getElem_append_left hk]
theorem At.right {i : Nat} {A B : List Int} (h : At t i (A ++ B)) : At t (i + A.length) B := fun k hk => by
  have := h (A.length + k) (by simp; omega)
  rw [show i + A.length + k = i + (A.length + k) by omega, this, List.getElem_append_right (by omega)]
  simp
theorem At.head {i : Nat} {x : Int} {L : List Int} (h : At t i (x :: L)) : bt t i = x := by
  have := h 0 (by simp)
  simpa using this
theorem At.tail {i : Nat} {x : Int} {L : List Int} (h : At t i (x :: L)) : At t (i + 1) L := fun k hk => by
  have := h (k + 1) (by simp; omega)
  rw [show i + 1 + k = i + (k + 1) by omega, this]; rfl
end
/-- elements with commas ahead -/
def elsR (rec : Nat → Nat × List Int) : Nat → Nat → Nat × List Int
  | 0, a => (a, [])
  | k + 1, a => ((elsR rec k (rec a).1).1, 44 :: ((rec a).2 ++ (elsR rec k (rec a).1).2))
theorem elsR_snoc (rec : Nat → Nat × List Int) : ∀ k a, elsR rec (k + 1) a = ((rec (elsR rec k a).1).1, (elsR rec k a).2 ++ (44 :: (rec (elsR rec k a).1).2))
  | 0, a => by simp [elsR]
  | k + 1, a => by
    have ih := elsR_snoc rec k (rec a).1
    rw [show elsR rec (k + 1 + 1) a = ((elsR rec (k + 1) (rec a).1).1, 44 :: ((rec a).2 ++ (elsR rec (k + 1) (rec a).1).2)) from rfl, ih]
    simp [elsR]
theorem elsG_front (rec : Nat → Nat × List Int) (a : Nat) : ∀ k, elsG rec a (k + 1) = ((elsR rec k (rec a).1).1, (rec a).2 ++ (elsR rec k (rec a).1).2)
  | 0 => by simp [elsG, elsR]
  | k + 1 => by
    rw [show elsG rec a (k + 1 + 1) = ((rec (elsG rec a (k + 1)).1).1, (elsG rec a (k + 1)).2 ++ ((if k + 1 = 0 then [] else [44]) ++ (rec (elsG rec a (k + 1)).1).2)) from rfl, elsG_front rec a k, elsR_snoc]
    simp
section
variable {s c t : ByteArray} {m : Nat}
/-- what is read of what was made -/
def Reads (t : ByteArray) (m : Nat) (l i len : Nat) (r : Option (Nat × Nat)) : Prop := ∃ h, r = some (i + len, h) ∧ h ≤ l ∧ Good t m i (i + len)
theorem pEl_made {rec : Nat → Option (Nat × Nat)} {gen : Nat → Nat × List Int} {l lim : Nat} {b : Int} {many : Bool} (hb : cO b = false) (hb44 : b ≠ 44) (hg : ∀ i a, lim ≤ i → At t i (gen a).2 → i + (gen a).2.length ≤ t.size → 0 < (gen a).2.length ∧ Reads t m l i (gen a).2.length (rec i)) :
    ∀ k i a mm top cn, lim ≤ i → At t i ((gen a).2 ++ (elsR gen k (gen a).1).2 ++ [b]) → i + ((gen a).2 ++ (elsR gen k (gen a).1).2 ++ [b]).length ≤ t.size → t.size ≤ i + mm → (0 < k → many = true) → top ≤ l →
      nEl t rec b mm i = k + 1 ∧ ∃ h, pEl t rec b many 0 mm i top cn = some (i + ((gen a).2 ++ (elsR gen k (gen a).1).2 ++ [b]).length, h) ∧ h ≤ l ∧ Good t m i (i + ((gen a).2 ++ (elsR gen k (gen a).1).2 ++ [b]).length)
  | 0, i, a, mm, top, cn, hlim, hA, hsz, hmm, hmany, htop => by
    simp only [elsR, List.append_nil, List.length_append, List.length_cons, List.length_nil] at hA hsz ⊢
    obtain ⟨hpos, h, e1, e2, e3⟩ := hg i a hlim hA.left (by omega)
    have hbt : bt t (i + (gen a).2.length : Nat) = b := hA.right.head
    obtain ⟨m', rfl⟩ : ∃ m', mm = m' + 1 := ⟨mm - 1, by omega⟩
    refine ⟨by simp only [nEl, e1]; rw [if_pos hbt], max top h, ?_, by omega, e3.join (Good.plain (by rw [hbt]; exact hb))⟩
    unfold pEl
    rw [e1]
    simp only
    rw [if_neg (by omega), if_pos hbt]; rfl
  | k + 1, i, a, mm, top, cn, hlim, hA, hsz, hmany, hk, htop => by
    have hshape : (gen a).2 ++ (elsR gen (k + 1) (gen a).1).2 ++ [b] = (gen a).2 ++ (44 :: ((gen (gen a).1).2 ++ (elsR gen k (gen (gen a).1).1).2 ++ [b])) := by simp [elsR]
    rw [hshape] at hA hsz ⊢
    simp only [List.length_append, List.length_cons, List.length_nil] at hsz ⊢
    obtain ⟨hpos, h, e1, e2, e3⟩ := hg i a hlim hA.left (by omega)
    have hbt : bt t (i + (gen a).2.length : Nat) = 44 := hA.right.head
    obtain ⟨m', rfl⟩ : ∃ m', mm = m' + 1 := ⟨mm - 1, by omega⟩
    obtain ⟨n1, h', p1, p2, p3⟩ := pEl_made hb hb44 hg k (i + (gen a).2.length + 1) (gen a).1 m' (max top h) (cn + 1) (by omega) hA.right.tail (by simp only [List.length_append, List.length_cons, List.length_nil]; omega) (by omega) (fun _ => hk (by omega)) (by omega)
    simp only [List.length_append, List.length_cons, List.length_nil] at p1 p3
    refine ⟨by simp only [nEl, e1]; rw [if_neg (by omega), n1], h', ?_, p2, ?_⟩
    · unfold pEl
      rw [e1]
      simp only
      rw [if_neg (by omega), if_neg (by omega), if_pos ⟨hbt, hk (by omega)⟩, p1]
      congr 2; omega
    · have := (e3.join (Good.plain (i := i + (gen a).2.length) (by rw [hbt]; decide))).join p3
      refine fun q q1 q2 q3 => this q q1 (by omega) q3
theorem pFs_made {g : Nat → Nat → Option (Nat × Nat)} {gen : Nat → Nat → Nat × List Int} {l lim : Nat} : ∀ (L : List Nat) (i a top : Nat), lim ≤ i → (∀ f ∈ L, ∀ i a, lim ≤ i → At t i (gen f a).2 → i + (gen f a).2.length ≤ t.size → Reads t m l i (gen f a).2.length (g f i)) → At t i (facsG gen L a).2 → i + (facsG gen L a).2.length ≤ t.size → top ≤ l →
    ∃ h, pFs g L i top = some (i + (facsG gen L a).2.length, h) ∧ h ≤ l ∧ Good t m i (i + (facsG gen L a).2.length)
  | [], i, a, top, _, _, _, _, htop => ⟨top, by simp [pFs, facsG], htop, fun p h1 h2 _ => by simp [facsG] at h2; omega⟩
  | f :: L, i, a, top, hlim, hg, hA, hsz, htop => by
    simp only [facsG, List.length_append] at hA hsz ⊢
    obtain ⟨h, e1, e2, e3⟩ := hg f (by simp) i a hlim hA.left (by omega)
    obtain ⟨h', p1, p2, p3⟩ := pFs_made L (i + (gen f a).2.length) (gen f a).1 (max top h) (by omega) (fun f' hf' => hg f' (by simp [hf'])) hA.right (by omega) (by omega)
    refine ⟨h', ?_, p2, ?_⟩
    · unfold pFs
      rw [e1]
      simp only
      rw [p1]
      congr 2; omega
    · refine fun q q1 q2 q3 => (e3.join p3) q q1 (by omega) q3
/-- expressions, to this depth -/
def SaidI (s c t : ByteArray) (m N : Nat) : Prop :=
  ∀ n l x a i, expFit s (nFit s l) x = true → dep s l x < N → x ≤ s.size → (sts s x).length ≤ 10 → At t i (genE s c m N l x a).2 → i + (genE s c m N l x a).2.length ≤ t.size → t.size < i + n → Reads t m l i (genE s c m N l x a).2.length (pE s t 0 n x i)
theorem genE_pos {N l x a : Nat} (h : 0 < N) : 0 < (genE s c m N l x a).2.length := by
  cases N with
  | zero => omega
  | succ N => simp [genE]
theorem cnt_many (hm : 1 ≤ m ∧ m ≤ 5) {l f a : Nat} : few (bt s f) + wayN c a (cnt s m l f) ≤ m ∧ (1 < few (bt s f) + wayN c a (cnt s m l f) → bt s f ≠ 40 ∧ bt s f ≠ 91) := by
  have h1 : wayN c a (cnt s m l f) < cnt s m l f := wayN_lt c a _ (by unfold cnt; split <;> omega)
  have h2 : cnt s m l f ≤ grt m (bt s f) - few (bt s f) + 1 := by unfold cnt; split <;> omega
  unfold few grt at *
  by_cases e1 : bt s f = 40
  · simp only [e1] at h2 ⊢; simp at h2 ⊢; omega
  · by_cases e2 : bt s f = 91
    · simp only [e2] at h2 ⊢; simp at h2 ⊢; omega
    · rw [if_neg (by omega)] at h2
      split at h2 <;> (rename_i hh; simp only [hh]; simp; omega)
theorem few_fit' {l f : Nat} (hO : cO (bt s f) = true) (hf : facFit s (nFit s l) (expFit s (nFit s l)) f = true) (a : Nat) (h : 0 < few (bt s f) + wayN c a (cnt s m l f)) : expFit s (nFit s l) (f + 1) = true := by
  have hN : cN (bt s f) = false := by
    have := cO_vals hO
    simp [cN]; omega
  unfold facFit at hf
  rw [if_neg (by simp [hN])] at hf
  by_cases e : bt s f = 40 ∨ bt s f = 60
  · rw [if_pos e] at hf; exact hf
  · unfold few at h
    rw [if_neg e] at h
    by_cases h2 : expFit s (nFit s l) (f + 1) = true
    · exact h2
    · unfold cnt wayN at h
      rw [if_neg h2] at h
      simp at h
theorem genF_parse (g : Gram s) (ten : Ten s) (hm : 1 ≤ m ∧ m ≤ 5) {N : Nat} (hE : SaidI s c t m N) {n l x f a i : Nat} (hf : isF s f = true) (hfit : facFit s (nFit s l) (expFit s (nFit s l)) f = true) (hx : x ≤ f) (hd : dep s l x < N + 1)
    (hA : At t i (genF s c m (genE s c m N) l f a).2) (hsz : i + (genF s c m (genE s c m N) l f a).2.length ≤ t.size) (hn : t.size < i + 1 + n) : Reads t m l i (genF s c m (genE s c m N) l f a).2.length (pF s t 0 (pE s t 0 n) f i) := by
  have hfl := isF_lt hf
  have hd1 : dep s l (f + 1) < N := by have := dep_sub (s := s) (l := l) hx hfl; omega
  cases h2 : cN (bt s f)
  · cases h3 : cO (bt s f)
    · have hL : cL (bt s f) = true := by simpa [isF, h2, h3] using hf
      have hR : genF s c m (genE s c m N) l f a = (a, [bt s f]) := by unfold genF; rw [if_neg (by simp [h2]), if_neg (by simp [h3])]
      rw [hR] at hA hsz ⊢
      have hb := hA.head
      obtain ⟨n1, _, _⟩ := letter_not (c := bt t i) (by rw [hb, hL]; rfl)
      refine ⟨0, ?_, Nat.zero_le _, Good.plain n1⟩
      unfold pF
      rw [if_neg (by omega), if_pos hL]; rfl
    · have hL : cL (bt s f) = false := by have := cO_vals h3; simp [cL]; omega
      have hx' : cX (cC (bt s f)) = true := cX_cC _ (by simpa [cO] using h3)
      have hR : genF s c m (genE s c m N) l f a = ((genB s c m (genE s c m N) l f a).1, bt s f :: (genB s c m (genE s c m N) l f a).2) := by unfold genF; rw [if_neg (by simp [h2]), if_pos h3]
      rw [hR] at hA hsz ⊢
      simp only [List.length_cons] at hA hsz ⊢
      have hb := hA.head
      have hT := hA.tail
      obtain ⟨hcm1, hcm2⟩ := cnt_many (s := s) (c := c) hm (l := l) (f := f) (a := a)
      have hpF : pF s t 0 (pE s t 0 n) f i = pB s t 0 (pE s t 0 n) f (i + 1) := by
        unfold pF; rw [if_neg (by omega), if_neg (by simp [hL]), if_neg (by simp [h2])]
      have hcl : cO (cC (bt s f)) = false := (close_not hx').2.2.1
      have hffit := few_fit' (c := c) (m := m) h3 hfit a
      have hex : ∀ h j, pB s t 0 (pE s t 0 n) f (i + 1) = some (j, h) → els t i = nB s t (pE s t 0 n) f (i + 1) := fun h j e => els_bracket h3 e
      unfold genB at hT hsz ⊢
      generalize hC : few (bt s f) + wayN c a (cnt s m l f) = C at *
      generalize wayA a (cnt s m l f) = A at *
      cases C with
      | zero =>
        simp only [elsG, List.nil_append, List.length_cons, List.length_nil] at hT hsz ⊢
        have hb1 := hT.head
        have hk : bt s f = 91 ∨ bt s f = 123 := by
          have := cO_vals h3
          have hf0 : few (bt s f) = 0 := by omega
          unfold few at hf0
          split at hf0
          · omega
          · omega
        have hpB : pB s t 0 (pE s t 0 n) f (i + 1) = some (i + 1 + 1, 0) := by unfold pB; rw [if_pos ⟨hb1, hk⟩]
        refine ⟨0, by rw [hpF, hpB], Nat.zero_le _, ?_⟩
        have hel := hex _ _ hpB
        have : nB s t (pE s t 0 n) f (i + 1) = 0 := by unfold nB; rw [if_pos ⟨hb1, hk⟩]
        exact (Good.one (by rw [hel, this]; omega)).join (Good.plain (by rw [hb1]; exact hcl))
      | succ k =>
        have hxx := hffit (by omega)
        rw [elsG_front] at hT hsz ⊢
        simp only at hT hsz ⊢
        have hgen : ∀ i' a', i + 1 ≤ i' → At t i' (genE s c m N l (f + 1) a').2 → i' + (genE s c m N l (f + 1) a').2.length ≤ t.size → 0 < (genE s c m N l (f + 1) a').2.length ∧ Reads t m l i' (genE s c m N l (f + 1) a').2.length (pE s t 0 n (f + 1) i') := fun i' a' h3' h1 h2 => ⟨genE_pos (by omega), hE n l (f + 1) a' i' hxx hd1 (by omega) (ten.sub f h3) h1 h2 (by omega)⟩
        have hcl44 : cC (bt s f) ≠ 44 := by intro e; rw [e] at hx'; revert hx'; decide
        have hfirst := (hgen (i + 1) A (Nat.le_refl _) hT.left.left (by simp only [List.length_append, List.length_cons, List.length_nil] at hsz; omega)).2
        obtain ⟨hf1, e1, _, _⟩ := hfirst
        have hdig : bt t (i + 1 : Nat) ≠ cC (bt s f) := by
          cases n with
          | zero => cases e1
          | succ n =>
            obtain ⟨k', _, hbk, hk9, _⟩ := pE_parts e1
            have := cC_vals (bt s f)
            omega
        obtain ⟨n1, h, p1, p2, p3⟩ := pEl_made (m := m) (lim := i + 1) (rec := pE s t 0 n (f + 1)) (gen := genE s c m N l (f + 1)) (l := l) (b := cC (bt s f)) (many := decide (bt s f = 123 ∨ bt s f = 60)) hcl hcl44 hgen k (i + 1) A (t.size - (i + 1)) 0 0 (Nat.le_refl _) hT (by omega) (by omega) (fun hk => by
          have h4 := hcm2 (by omega)
          have := cO_vals h3
          simp; omega) (Nat.zero_le _)
        have hpB : pB s t 0 (pE s t 0 n) f (i + 1) = some (i + 1 + ((genE s c m N l (f + 1) A).2 ++ (elsR (genE s c m N l (f + 1)) k (genE s c m N l (f + 1) A).1).2 ++ [cC (bt s f)]).length, h) := by
          unfold pB; rw [if_neg (fun hh => hdig hh.1)]; exact p1
        have hel := hex _ _ hpB
        have hnB : nB s t (pE s t 0 n) f (i + 1) = k + 1 := by unfold nB; rw [if_neg (fun hh => hdig hh.1)]; exact n1
        refine ⟨h, by rw [hpF, hpB]; congr 2; omega, p2, ?_⟩
        have := (Good.one (most := (m : Int)) (by rw [hel, hnB]; omega)).join p3
        exact fun q q1 q2 q3 => this q q1 (by omega) q3
  · have hR : genF s c m (genE s c m N) l f a = ((genN s (genE s c m N) l f a).1, bt s f :: (genN s (genE s c m N) l f a).2) := by unfold genF; rw [if_pos h2]
    rw [hR] at hA hsz ⊢
    unfold genN at hA hsz ⊢
    have hL : cL (bt s f) = false := by
      have hv : 65 ≤ bt s f ∧ bt s f ≤ 90 := by simpa [cN] using h2
      simp [cL]; omega
    have hfn : nFit s l (bt s f - 65).toNat = true := by unfold facFit at hfit; rw [if_pos h2] at hfit; exact hfit
    have hv : 65 ≤ bt s f ∧ bt s f ≤ 90 := by simpa [cN] using h2
    obtain ⟨l', rfl⟩ : ∃ l', l = l' + 1 := by
      cases l with
      | zero => cases hfn
      | succ l' => exact ⟨l', rfl⟩
    obtain ⟨j, j1, j2, j3, _⟩ := g.name f h2
    have hex : expFit s (nFit s l') (j + 2) = true := by
      have h' : expFit s (nFit s l') (rl s (65 + (bt s f - 65).toNat : Nat) + 2).toNat = true := hfn
      rw [show ((65 + (bt s f - 65).toNat : Nat) : Int) = bt s f by omega, j1] at h'
      exact h'
    have hyy : (rl s (bt s f) + 2).toNat = j + 2 := by omega
    rw [hyy] at hA hsz ⊢
    simp only [Nat.add_sub_cancel, List.length_cons, List.length_append, List.length_nil] at hA hsz ⊢
    have hb := hA.head
    have hb1 := hA.tail.head
    have hin := hA.tail.tail.left
    have hb2 := hA.tail.tail.right.head
    have hdn : dep s l' (j + 2) < N := by have := dep_name (s := s) (l := l' + 1) (x := x) (y := j + 2) (by omega) (by omega); simp only [Nat.add_sub_cancel] at this; omega
    obtain ⟨h, e1, e2, e3⟩ := hE n l' (j + 2) a (i + 1 + 1) hex hdn (g.rule j j2 j3).2.2.1 (ten.rule j j2 j3) hin (by omega) (by omega)
    obtain ⟨n1, _, _⟩ := letter_not (c := bt t i) (by rw [hb, h2]; simp)
    have hone := els_name (i := i + 1) e1 hb2
    refine ⟨h + 1, ?_, by omega, ?_⟩
    · unfold pF pN
      rw [if_neg (by omega), if_neg (by simp [hL]), if_pos h2, if_neg (by omega), hyy, e1]
      simp only
      rw [if_pos hb2]
      congr 2; omega
    · have := (((Good.plain (most := (m : Int)) n1).join (Good.one (by rw [hone]; omega))).join e3).join (Good.plain (by rw [hb2]; decide))
      exact fun q q1 q2 q3 => this q q1 (by omega) q3
theorem genE_parse (g : Gram s) (ten : Ten s) (hm : 1 ≤ m ∧ m ≤ 5) : ∀ N, SaidI s c t m N
  | 0 => fun n l x a i _ hd => by omega
  | N + 1 => by
    intro n l x a i hfit hd hx h10 hA hsz hn
    obtain ⟨hG1, hG2⟩ := fitL_mem (gone_mem (c := c) (a := a) hfit)
    have hap : ap s (gone s c l x a) x = some ((sts s x).getD (gone s c l x a) 0) := by
      rw [sts_ap, List.getD_eq_getElem?_getD, List.getElem?_eq_getElem hG1]; rfl
    have hxa := (ap_bd hap).1
    unfold genE at hA hsz ⊢
    simp only [List.length_cons] at hA hsz ⊢
    have hb := hA.head
    obtain ⟨n', rfl⟩ : ∃ n', n = n' + 1 := ⟨n - 1, by omega⟩
    obtain ⟨h, p1, p2, p3⟩ := pFs_made (t := t) (m := m) (l := l) (lim := i + 1) (g := pF s t 0 (pE s t 0 n')) (gen := genF s c m (genE s c m N) l) (fe s ((sts s x).getD (gone s c l x a) 0)).1 (i + 1) (wayA a (fitL s l x).length) 0 (Nat.le_refl _)
      (fun f hf i' a' hlim h1 h2 => genF_parse g ten hm (genE_parse g ten hm N) (x := x) (fe_mem hf).1 (hG2 f hf) (by have := (fe_mem hf).2; omega) (by omega) h1 h2 (by omega)) hA.tail (by omega) (Nat.zero_le _)
    obtain ⟨n1, _, _⟩ := letter_not (c := bt t i) (by rw [hb]; simp [cL, cN, cD]; omega)
    refine ⟨h, ?_, p2, ?_⟩
    · unfold pE
      rw [if_pos (by rw [hb]; simp [cD]; omega), show (bt t i - 48).toNat = gone s c l x a by omega, hap]
      simp only
      rw [p1]
      congr 2; omega
    · have := (Good.plain (most := (m : Int)) n1).join p3
      exact fun q q1 q2 q3 => this q q1 (by omega) q3
end
end Go.Proofs.Ytnfaiaoipeholaa
/- The choices that are told of a tree make it again. No Go here. -/
namespace Go.Proofs.Ytnfaiaoipeholaa
/-- the bytes of a text, from a place to another -/
def segF (t : ByteArray) : Nat → Nat → List Int
  | 0, _ => []
  | n + 1, i => bt t i :: segF t n (i + 1)
def seg (t : ByteArray) (i j : Nat) : List Int := segF t (j - i) i
theorem segF_add (t : ByteArray) : ∀ a b i, segF t (a + b) i = segF t a i ++ segF t b (i + a)
  | 0, b, i => by simp [segF]
  | a + 1, b, i => by
    rw [show a + 1 + b = (a + b) + 1 by omega]
    show bt t i :: segF t (a + b) (i + 1) = _
    rw [segF_add t a b (i + 1), show i + 1 + a = i + (a + 1) by omega]; rfl
theorem seg_app {t : ByteArray} {i j k : Nat} (h1 : i ≤ j) (h2 : j ≤ k) : seg t i k = seg t i j ++ seg t j k := by
  unfold seg
  rw [show k - i = (j - i) + (k - j) by omega, segF_add, show i + (j - i) = j by omega]
theorem seg_one (t : ByteArray) (i : Nat) : seg t i (i + 1) = [bt t i] := by unfold seg; rw [show i + 1 - i = 1 by omega]; rfl
theorem seg_self (t : ByteArray) (i : Nat) : seg t i i = [] := by unfold seg; rw [show i - i = 0 by omega]; rfl
theorem segF_len (t : ByteArray) : ∀ n i, (segF t n i).length = n
  | 0, i => rfl
  | n + 1, i => by simp [segF, segF_len t n]
theorem Good.sub {t : ByteArray} {most : Int} {i j i' j' : Nat} (h : Good t most i j) (h1 : i ≤ i') (h2 : j' ≤ j) : Good t most i' j' := fun p a b c => h p (by omega) (by omega) c
theorem dig_of {c : ByteArray} {a w : Nat} (h : bt c a = 48 + (w : Int)) (hw : w ≤ 9) : dig c a = w := by
  unfold dig; rw [h, if_pos (by simp [cD]; omega)]; omega
/-- the way is the digit's own number -/
theorem way_back {c : ByteArray} {a n w : Nat} (hA : At c a (dgt n w)) (hw : w < n) (hn : n ≤ 10) : wayN c a n = w ∧ wayA a n = a + (dgt n w).length := by
  unfold wayN wayA
  unfold dgt at hA ⊢
  by_cases h : 1 < n
  · rw [if_pos h] at hA ⊢
    have hb := hA.head
    rw [if_neg (by omega), if_neg (by omega), dig_of hb (by omega), Nat.mod_eq_of_lt hw]
    exact ⟨rfl, rfl⟩
  · rw [if_neg h]
    rw [if_pos (by omega), if_pos (by omega)]
    exact ⟨by omega, rfl⟩
section
variable {s c t : ByteArray} {m : Nat}
theorem pFs_back {g : Nat → Nat → Option (Nat × Nat)} {dg : Nat → Nat → List Int} {gen : Nat → Nat → Nat × List Int} {l : Nat} : ∀ (L : List Nat) (i a top j h : Nat), (∀ f ∈ L, ∀ i j h, g f i = some (j, h) → i < j) → (∀ f ∈ L, ∀ i j h a, g f i = some (j, h) → h ≤ l → Good t m i j → At c a (dg f i) → gen f a = (a + (dg f i).length, seg t i j)) → pFs g L i top = some (j, h) → h ≤ l → Good t m i j → At c a (dFs g dg L i) →
    facsG gen L a = (a + (dFs g dg L i).length, seg t i j)
  | [], i, a, top, j, h, _, _, e, _, _, _ => by
    simp only [pFs, Option.some.injEq, Prod.mk.injEq] at e
    rw [← e.1]; simp [facsG, dFs, seg_self]
  | f :: L, i, a, top, j, h, hlt, hg, e, hl, hG, hA => by
    unfold pFs at e
    cases hq : g f i with
    | none => rw [hq] at e; cases e
    | some q =>
      obtain ⟨a1, k⟩ := q
      rw [hq] at e
      simp only at e
      have hkl := (pFs_parts _ _ _ _ _ e).1
      have hd : dFs g dg (f :: L) i = dg f i ++ dFs g dg L a1 := by simp only [dFs, hq]
      rw [hd] at hA ⊢
      have h1 := hlt f (by simp) i a1 k hq
      have h2 := pFs_le L a1 (max top k) j h (fun f' hf' => hlt f' (by simp [hf'])) e
      have e1 := hg f (by simp) i a1 k a hq (by omega) (hG.sub (Nat.le_refl _) h2) hA.left
      have e2 := pFs_back L a1 (a + (dg f i).length) (max top k) j h (fun f' hf' => hlt f' (by simp [hf'])) (fun f' hf' => hg f' (by simp [hf'])) e hl (hG.sub (by omega) (Nat.le_refl _)) hA.right
      unfold facsG
      rw [e1]
      simp only
      rw [e2, seg_app (Nat.le_of_lt h1) h2]
      simp only [List.length_append, Prod.mk.injEq, and_true]; omega
theorem pEl_back {rec : Nat → Option (Nat × Nat)} {dr : Nat → List Int} {gen : Nat → Nat × List Int} {l : Nat} {b : Int} {many : Bool} (hlt : ∀ i j h, rec i = some (j, h) → i < j) (hg : ∀ i j h a, rec i = some (j, h) → h ≤ l → Good t m i j → At c a (dr i) → gen a = (a + (dr i).length, seg t i j)) :
    ∀ mm i top cn j h a, pEl t rec b many 0 mm i top cn = some (j, h) → h ≤ l → Good t m i j → At c a (dEl t rec dr b mm i) → ∃ k, nEl t rec b mm i = k + 1 ∧ (elsR gen k (gen a).1).1 = a + (dEl t rec dr b mm i).length ∧ (gen a).2 ++ (elsR gen k (gen a).1).2 ++ [b] = seg t i j ∧ (many = false → k = 0)
  | 0, i, top, cn, j, h, a, e, _, _, _ => by cases e
  | mm + 1, i, top, cn, j, h, a, e, hl, hG, hA => by
    obtain ⟨m', a1, k1, hm, hq, hk1, hc⟩ := pEl_parts e dr
    have hm' : m' = mm := by omega
    subst hm'
    have h1 := hlt i a1 k1 hq
    have hj := (pEl_gt hlt _ _ _ _ _ _ e).2 a1 k1 hq
    rcases hc with ⟨hb, c1, c2, c3⟩ | ⟨hb, hb44, c1, c2, c3⟩
    · rw [c3] at hA ⊢
      have e1 := hg i a1 k1 a hq (by omega) (hG.sub (Nat.le_refl _) (by omega)) hA
      refine ⟨0, c2, by rw [e1]; rfl, ?_, fun _ => rfl⟩
      rw [e1, c1, seg_app (Nat.le_of_lt h1) (Nat.le_succ a1), seg_one, hb]
      simp [elsR]
    · rw [c3] at hA ⊢
      have e1 := hg i a1 k1 a hq (by omega) (hG.sub (Nat.le_refl _) (by omega)) hA.left
      obtain ⟨k, d1, d2, d3, _⟩ := pEl_back hlt hg m' (a1 + 1) (max top k1) (cn + 1) j h (a + (dr i).length) c1 hl (hG.sub (by omega) (Nat.le_refl _)) hA.right
      have hj2 := (pEl_gt hlt _ _ _ _ _ _ c1).1
      refine ⟨k + 1, by rw [c2, d1], ?_, ?_, fun hmn => ?_⟩
      · rw [e1]
        simp only [elsR]
        rw [d2]; simp only [List.length_append]; omega
      · rw [e1]
        simp only [elsR]
        rw [seg_app (Nat.le_of_lt h1) (by omega : a1 ≤ j), seg_app (Nat.le_succ a1) (by omega : a1 + 1 ≤ j), seg_one, hb44, ← d3]
        simp
      · exfalso
        subst hmn
        unfold pEl at e
        rw [hq] at e
        simp only at e
        rw [if_neg (by omega), if_neg hb, if_neg (by simp)] at e
        cases e
theorem nEl_single {rec : Nat → Option (Nat × Nat)} {b : Int} {mm i top j h : Nat} {cn : Int} (e : pEl t rec b false 0 mm i top cn = some (j, h)) : nEl t rec b mm i ≤ 1 := by
  cases mm with
  | zero => cases e
  | succ mm =>
    unfold pEl at e
    cases hq : rec i with
    | none => rw [hq] at e; cases e
    | some q =>
      obtain ⟨a, k⟩ := q
      rw [hq] at e
      simp only at e
      rw [if_neg (by omega)] at e
      simp only [nEl, hq]
      split at e
      · rename_i hb; rw [if_pos hb]; omega
      · rw [if_neg (by simp)] at e; cases e
/-- expressions, to this depth -/
def SaidJ (s c t : ByteArray) (m N : Nat) : Prop :=
  ∀ n l x i j h a, pE s t 0 n x i = some (j, h) → h ≤ l → l ≤ 9 → dep s l x < N → x ≤ s.size → (sts s x).length ≤ 10 → Good t m i j → At c a (dE s t m n l x i) → genE s c m N l x a = (a + (dE s t m n l x i).length, seg t i j)
theorem cnt_back (hm : 1 ≤ m ∧ m ≤ 5) {n l f i j h : Nat} (hO : cO (bt s f) = true) (e : pB s t 0 (pE s t 0 n) f i = some (j, h)) (hl : h ≤ l) (hC : nB s t (pE s t 0 n) f i ≤ m) (hone : (bt s f = 40 ∨ bt s f = 91) → nB s t (pE s t 0 n) f i ≤ 1) : few (bt s f) ≤ nB s t (pE s t 0 n) f i ∧ nB s t (pE s t 0 n) f i - few (bt s f) < cnt s m l f := by
  have hfew : few (bt s f) ≤ 1 := by unfold few; split <;> omega
  have h1 : few (bt s f) = 1 → 1 ≤ nB s t (pE s t 0 n) f i := fun hf => nB_one hf hO e
  unfold cnt
  by_cases hx : expFit s (nFit s l) (f + 1) = true
  · rw [if_pos hx]
    have hg : nB s t (pE s t 0 n) f i ≤ grt m (bt s f) := by
      unfold grt; split
      · rename_i hh; exact hone hh
      · exact hC
    omega
  · rw [if_neg hx]
    have h0 := nB_none e hl (by simpa using hx)
    omega
theorem genF_back (g : Gram s) (ten : Ten s) (hm : 1 ≤ m ∧ m ≤ 5) {N : Nat} (hE : SaidJ s c t m N) {n l x f i j h a : Nat} (hf : isF s f = true) (hp : pF s t 0 (pE s t 0 n) f i = some (j, h)) (hl : h ≤ l) (hl9 : l ≤ 9) (hx : x ≤ f) (hd : dep s l x < N + 1) (hG : Good t m i j)
    (hA : At c a (dF s t m (pE s t 0 n) (dE s t m n) l f i)) : genF s c m (genE s c m N) l f a = (a + (dF s t m (pE s t 0 n) (dE s t m n) l f i).length, seg t i j) := by
  have hfl := isF_lt hf
  have hd1 : dep s l (f + 1) < N := by have := dep_sub (s := s) (l := l) hx hfl; omega
  have hlt := (pF_fwd (most := 0) (fun x i => pE_fwd s t 0 n x i) hf j h hp).1
  have hnz : bt s f ≠ 0 := by intro e; rw [isF, e] at hf; exact absurd hf (by decide)
  unfold pF at hp
  split at hp
  · cases hp
  rename_i hbt
  have hbt' : bt t i = bt s f := by omega
  have hit : i < t.size := bt_lt (by omega)
  cases h2 : cN (bt s f)
  · cases h3 : cO (bt s f)
    · have hL : cL (bt s f) = true := by simpa [isF, h2, h3] using hf
      rw [if_pos hL] at hp
      simp only [Option.some.injEq, Prod.mk.injEq] at hp
      unfold genF dF
      rw [if_neg (by simp [h2]), if_neg (by simp [h3]), if_neg (by simp [h2]), if_neg (by simp [h3]), ← hp.1, seg_one, hbt']; rfl
    · have hL : cL (bt s f) = false := by have := cO_vals h3; simp [cL]; omega
      rw [if_neg (by simp [hL]), if_neg (by simp [h2])] at hp
      have hOi : cO (bt t i) = true := by rw [hbt']; exact h3
      have hel := els_bracket (i := i) h3 hp
      have hGi := hG i (Nat.le_refl _) hlt hOi
      have hone : (bt s f = 40 ∨ bt s f = 91) → nB s t (pE s t 0 n) f (i + 1) ≤ 1 := fun hk => by
        have hp' := hp
        unfold pB at hp'
        unfold nB
        split at hp'
        · rename_i hh; rw [if_pos hh]; omega
        · rename_i hh
          rw [if_neg hh]
          rw [show decide (bt s f = 123 ∨ bt s f = 60) = false by simp; omega] at hp'
          exact nEl_single hp'
      obtain ⟨hc1, hc2⟩ := cnt_back hm h3 hp hl (by omega) hone
      have hcb : cnt s m l f ≤ 6 := by unfold cnt grt few; split <;> (try split) <;> (try split) <;> omega
      unfold genF dF
      unfold dF at hA
      rw [if_neg (by simp [h2]), if_pos h3] at hA
      rw [if_neg (by simp [h2]), if_pos h3, if_neg (by simp [h2]), if_pos h3]
      unfold dB at hA ⊢
      obtain ⟨hw1, hw2⟩ := way_back hA.left hc2 (by omega)
      unfold genB
      rw [hw1, hw2, show few (bt s f) + (nB s t (pE s t 0 n) f (i + 1) - few (bt s f)) = nB s t (pE s t 0 n) f (i + 1) by omega]
      have hA2 := hA.right
      have hjj : i + 1 < j := (pB_fwd (most := 0) (fun x i => pE_fwd s t 0 n x i) (by simpa [cO] using h3) j h hp).1
      unfold pB at hp
      split at hp
      · rename_i hh
        simp only [Option.some.injEq, Prod.mk.injEq] at hp
        have hn0 : nB s t (pE s t 0 n) f (i + 1) = 0 := by unfold nB; rw [if_pos hh]
        rw [if_pos hh, hn0, ← hp.1, seg_app (Nat.le_succ i) (by omega : i + 1 ≤ i + 1 + 1), seg_one, seg_one, hh.1, hbt']
        simp [elsG]
      · rename_i hh
        rw [if_neg hh] at hA2 ⊢
        obtain ⟨k, d1, d2, d3, _⟩ := pEl_back (c := c) (rec := pE s t 0 n (f + 1)) (gen := genE s c m N l (f + 1)) (dr := dE s t m n l (f + 1)) (l := l) (fun i j h e => (pE_fwd s t 0 n (f + 1) i j h e).1) (fun i' j' h' a' e' hl' hG' hA' => hE n l (f + 1) i' j' h' a' e' hl' hl9 hd1 (by omega) (ten.sub f h3) hG' hA') _ _ _ _ _ _ _ hp hl (hG.sub (Nat.le_succ i) (Nat.le_refl _)) hA2
        have hnk : nB s t (pE s t 0 n) f (i + 1) = k + 1 := by unfold nB; rw [if_neg hh]; exact d1
        rw [hnk] at d2 d3
        rw [hnk, elsG_front]
        simp only
        rw [seg_app (Nat.le_succ i) (by omega : i + 1 ≤ j), seg_one, hbt', ← d3, d2]
        simp only [List.length_append, Prod.mk.injEq]
        exact ⟨by omega, rfl⟩
  · have hL : cL (bt s f) = false := by
      have hv : 65 ≤ bt s f ∧ bt s f ≤ 90 := by simpa [cN] using h2
      simp [cL]; omega
    rw [if_neg (by simp [hL]), if_pos h2] at hp
    obtain ⟨jr, j1, j2, j3, _⟩ := g.name f h2
    have hyy : (rl s (bt s f) + 2).toNat = jr + 2 := by omega
    unfold pN at hp
    split at hp
    · cases hp
    rename_i h40
    have h40' : bt t (i + 1 : Nat) = 40 := by omega
    rw [hyy] at hp
    cases hq : pE s t 0 n (jr + 2) (i + 1 + 1) with
    | none => rw [hq] at hp; cases hp
    | some q =>
      obtain ⟨a1, k⟩ := q
      rw [hq] at hp
      simp only at hp
      split at hp
      case isFalse => cases hp
      rename_i h41
      simp only [Option.some.injEq, Prod.mk.injEq] at hp
      obtain ⟨hp1, hp2⟩ := hp
      unfold genF dF
      unfold dF at hA
      rw [if_pos h2, hyy] at hA
      rw [if_pos h2, if_pos h2, hyy]
      unfold genN
      rw [hyy]
      have hdn : dep s (l - 1) (jr + 2) < N := by have := dep_name (s := s) (l := l) (x := x) (y := jr + 2) (by omega) (by omega); omega
      have hfw := (pE_fwd s t 0 n _ _ a1 k hq).1
      have e1 := hE n (l - 1) (jr + 2) (i + 1 + 1) a1 k a hq (by omega) (by omega) hdn (g.rule jr j2 j3).2.2.1 (ten.rule jr j2 j3) (hG.sub (by omega) (by omega)) hA
      rw [e1, ← hp1, seg_app (Nat.le_succ i) (by omega : i + 1 ≤ a1 + 1), seg_one, hbt', seg_app (Nat.le_succ (i + 1)) (by omega : i + 1 + 1 ≤ a1 + 1), seg_one, h40', seg_app (by omega : i + 1 + 1 ≤ a1) (Nat.le_succ a1), seg_one, h41]
      rfl
theorem fit_idx {p : Nat → Bool} {k : Nat} (hp : p k = true) : ∀ len, k < len → ((List.range len).filter p)[((List.range k).filter p).length]? = some k
  | 0, h => by omega
  | len + 1, h => by
    rw [List.range_succ, List.filter_append]
    by_cases e : k = len
    · subst e; simp [List.filter, hp]
    · have ih := fit_idx hp len (by omega)
      rw [List.getElem?_append_left (List.getElem?_eq_some_iff.1 ih).1]; exact ih
theorem genE_back (g : Gram s) (ten : Ten s) (hm : 1 ≤ m ∧ m ≤ 5) : ∀ N, SaidJ s c t m N
  | 0 => fun n l x i j h a _ _ _ hd => by omega
  | N + 1 => by
    intro n l x i j h a hp hl hl9 hd hx h10 hG hA
    cases n with
    | zero => cases hp
    | succ n =>
      obtain ⟨K, y, hbk, hk9, hka, hpf⟩ := pE_parts hp
      obtain ⟨hKlen, hKfit⟩ := pE_mem hka hpf hl
      have hij := (pE_fwd s t 0 (n + 1) x i j h hp).1
      have hyK : (sts s x)[K]?.getD 0 = y := by rw [← sts_ap, hka]; rfl
      have hat : (fitL s l x)[wayIx s l x K]? = some K := fit_idx (p := fun j => altFit s (nFit s l) (expFit s (nFit s l)) (fe s ((sts s x).getD j 0)).1) (by simpa [hyK] using hKfit) _ hKlen
      have hIx := (List.getElem?_eq_some_iff.1 hat).1
      have hLle := fitL_len s l x
      have hxy := (ap_bd hka).1
      have hle1 := pFs_le (fe s y).1 (i + 1) 0 j h (fun f hf i j h e => (pF_fwd (most := 0) (fun x i => pE_fwd s t 0 n x i) (fe_mem hf).1 j h e).1) hpf
      unfold dE at hA ⊢
      rw [show (bt t i - 48).toNat = K by omega, hka] at hA ⊢
      simp only at hA ⊢
      obtain ⟨hw1, hw2⟩ := way_back hA.left hIx (by omega)
      have hgone : gone s c l x a = K := by
        unfold gone; rw [hw1, List.getD_eq_getElem?_getD, hat]; rfl
      unfold genE
      rw [hgone, List.getD_eq_getElem?_getD, hyK, hw2]
      have e1 := pFs_back (c := c) (t := t) (m := m) (l := l) (gen := genF s c m (genE s c m N) l) (fe s y).1 (i + 1) (a + (dgt (fitL s l x).length (wayIx s l x K)).length) 0 j h
        (fun f hf i j h e => (pF_fwd (most := 0) (fun x i => pE_fwd s t 0 n x i) (fe_mem hf).1 j h e).1)
        (fun f hf i' j' h' a' e' hl' hG' hA' => genF_back g ten hm (genE_back g ten hm N) (x := x) (fe_mem hf).1 e' hl' hl9 (by have := (fe_mem hf).2; omega) (by omega) hG' hA')
        hpf hl (hG.sub (Nat.le_succ i) (Nat.le_refl _)) hA.right
      rw [e1, seg_app (Nat.le_succ i) hle1, seg_one, hbk]
      simp only [List.length_append, Prod.mk.injEq]
      exact ⟨Nat.add_assoc _ _ _, rfl⟩
end
end Go.Proofs.Ytnfaiaoipeholaa
/- Making and recalling, as a whole. No Go here. -/
namespace Go.Proofs.Ytnfaiaoipeholaa
/-- bytes -/
def Byts (L : List Int) : Prop := ∀ x ∈ L, 0 ≤ x ∧ x ≤ 255
theorem Byts.app {A B : List Int} (h : Byts A) (g : Byts B) : Byts (A ++ B) := fun x hx => by
  rcases List.mem_append.1 hx with hx | hx
  · exact h x hx
  · exact g x hx
theorem Byts.cons {x : Int} {B : List Int} (h : 0 ≤ x ∧ x ≤ 255) (g : Byts B) : Byts (x :: B) := fun y hy => by
  rcases List.mem_cons.1 hy with rfl | hy
  · exact h
  · exact g y hy
theorem Byts.nil : Byts [] := fun x hx => by cases hx
theorem bt_strs {L : List Int} (h : Byts L) {k : Nat} (hk : k < L.length) : bt (strOfNums L) k = L[k] := by
  have hs : (strOfNums L).size = L.length := strOfNums_size L
  rw [bt_at _ k (by omega)]
  have hb := h L[k] (List.getElem_mem hk)
  show (((strOfNums L).data[k]'(by rw [show (strOfNums L).data.size = L.length from hs]; exact hk)).toNat : Int) = L[k]
  simp only [strOfNums, List.getElem_toArray, List.getElem_map]
  rw [UInt8.toNat_ofNat']
  have : L[k].toNat < 2 ^ 8 := by omega
  rw [Nat.mod_eq_of_lt this]; omega
theorem At.strs {L : List Int} (h : Byts L) : At (strOfNums L) 0 L := fun k hk => by rw [Nat.zero_add]; exact bt_strs h hk
theorem seg_get (t : ByteArray) : ∀ n i k (hk : k < (segF t n i).length), (segF t n i)[k] = bt t (i + k : Nat)
  | 0, i, k, hk => by simp [segF] at hk
  | n + 1, i, 0, hk => by simp [segF]
  | n + 1, i, k + 1, hk => by
    have := seg_get t n (i + 1) k (by simp [segF] at hk; exact hk)
    simp only [segF, List.getElem_cons_succ]
    rw [this, show i + 1 + k = i + (k + 1) by omega]
theorem strs_seg (t : ByteArray) : strOfNums (seg t 0 t.size) = t := by
  have hl : (seg t 0 t.size).length = t.size := by unfold seg; rw [segF_len]; omega
  have hsz : (strOfNums (seg t 0 t.size)).size = t.size := by rw [strOfNums_size, hl]
  refine ByteArray.ext (Array.ext hsz ?_)
  intro k h1 h2
  have hk : k < t.size := h2
  simp only [strOfNums, List.getElem_toArray, List.getElem_map]
  have e : (seg t 0 t.size)[k]'(by omega) = (t[k].toNat : Int) := by
    unfold seg
    rw [seg_get, Nat.zero_add, bt_at t k hk]
  rw [e]
  simp
  rfl
section
variable {s c t : ByteArray} {m : Nat}
theorem bt_byte (s : ByteArray) (f : Nat) : 0 ≤ bt s f ∧ bt s f ≤ 255 := bt_bd s f
theorem facsG_byts {gen : Nat → Nat → Nat × List Int} : ∀ (L : List Nat) (a : Nat), (∀ f ∈ L, ∀ a, Byts (gen f a).2) → Byts (facsG gen L a).2
  | [], a, _ => Byts.nil
  | f :: L, a, h => (h f (by simp) a).app (facsG_byts L _ (fun f' hf' => h f' (by simp [hf'])))
theorem elsG_byts {gen : Nat → Nat × List Int} (a : Nat) (h : ∀ a, Byts (gen a).2) : ∀ k, Byts (elsG gen a k).2
  | 0 => Byts.nil
  | k + 1 => by
    refine (elsG_byts a h k).app (Byts.app ?_ (h _))
    split
    · exact Byts.nil
    · exact Byts.cons (by omega) Byts.nil
theorem genE_byts (g : Gram s) (ten : Ten s) : ∀ N l x a, (sts s x).length ≤ 10 → Byts (genE s c m N l x a).2
  | 0, l, x, a, _ => Byts.nil
  | N + 1, l, x, a, h10 => by
    have hg9 : gone s c l x a ≤ 10 := by
      unfold gone
      rw [List.getD_eq_getElem?_getD]
      cases hq : (fitL s l x)[wayN c a (fitL s l x).length]? with
      | none => simp
      | some k =>
        have := (fitL_mem (List.mem_of_getElem? hq)).1
        simp; omega
    refine Byts.cons (by omega) (facsG_byts _ _ (fun f hf a => ?_))
    have hF := (fe_mem hf).1
    unfold genF
    split
    · rename_i hN
      obtain ⟨j, j1, j2, j3, _⟩ := g.name f hN
      refine Byts.cons (bt_byte s f) (Byts.cons (by omega) (Byts.app ?_ (Byts.cons (by omega) Byts.nil)))
      rw [show (rl s (bt s f) + 2).toNat = j + 2 by omega]
      exact genE_byts g ten N (l - 1) (j + 2) a (ten.rule j j2 j3)
    · split
      · rename_i hO
        exact Byts.cons (bt_byte s f) (Byts.app (elsG_byts _ (fun a => genE_byts g ten N l (f + 1) a (ten.sub f hO)) _) (Byts.cons (cC_bd _) Byts.nil))
      · exact Byts.cons (bt_byte s f) Byts.nil
/-- digits, and not too many -/
def Dgs (L : List Int) (n : Nat) : Prop := L.length ≤ n ∧ ∀ x ∈ L, 48 ≤ x ∧ x ≤ 57
theorem Dgs.app {A B : List Int} {p q : Nat} (h : Dgs A p) (g : Dgs B q) : Dgs (A ++ B) (p + q) := ⟨by simp only [List.length_append]; have := h.1; have := g.1; omega, fun x hx => by
  rcases List.mem_append.1 hx with hx | hx
  · exact h.2 x hx
  · exact g.2 x hx⟩
theorem Dgs.mono {A : List Int} {p q : Nat} (h : Dgs A p) (g : p ≤ q) : Dgs A q := ⟨Nat.le_trans h.1 g, h.2⟩
theorem Dgs.nil (n : Nat) : Dgs [] n := ⟨Nat.zero_le _, fun x hx => by cases hx⟩
theorem dgt_dgs (n : Nat) {w : Nat} (h : w ≤ 9) : Dgs (dgt n w) 1 := ⟨dgt_len n w, fun x hx => by
  unfold dgt at hx
  split at hx
  · simp at hx; omega
  · cases hx⟩
theorem dFs_dgs {g : Nat → Nat → Option (Nat × Nat)} {dg : Nat → Nat → List Int} : ∀ (L : List Nat) (i top j h : Nat), (∀ f ∈ L, ∀ i j h, g f i = some (j, h) → i < j) → (∀ f ∈ L, ∀ i j h, g f i = some (j, h) → Good t m i j → Dgs (dg f i) (j - i)) → pFs g L i top = some (j, h) → Good t m i j → Dgs (dFs g dg L i) (j - i)
  | [], i, top, j, h, _, _, _, _ => Dgs.nil _
  | f :: L, i, top, j, h, hlt, hg, e, hG => by
    unfold pFs at e
    cases hq : g f i with
    | none => rw [hq] at e; cases e
    | some q =>
      obtain ⟨a1, k⟩ := q
      rw [hq] at e
      simp only at e
      have h1 := hlt f (by simp) i a1 k hq
      have h2 := pFs_le L a1 (max top k) j h (fun f' hf' => hlt f' (by simp [hf'])) e
      simp only [dFs, hq]
      exact ((hg f (by simp) i a1 k hq (hG.sub (Nat.le_refl _) h2)).app (dFs_dgs L a1 (max top k) j h (fun f' hf' => hlt f' (by simp [hf'])) (fun f' hf' => hg f' (by simp [hf'])) e (hG.sub (by omega) (Nat.le_refl _)))).mono (by omega)
theorem dEl_dgs {rec : Nat → Option (Nat × Nat)} {dr : Nat → List Int} {b : Int} {many : Bool} (hlt : ∀ i j h, rec i = some (j, h) → i < j) (hg : ∀ i j h, rec i = some (j, h) → Good t m i j → Dgs (dr i) (j - i)) :
    ∀ mm i top cn j h, pEl t rec b many 0 mm i top cn = some (j, h) → Good t m i j → Dgs (dEl t rec dr b mm i) (j - i)
  | 0, i, top, cn, j, h, e, _ => by cases e
  | mm + 1, i, top, cn, j, h, e, hG => by
    obtain ⟨m', a1, k1, hm, hq, hk1, hc⟩ := pEl_parts e dr
    have hm' : m' = mm := by omega
    subst hm'
    have h1 := hlt i a1 k1 hq
    have hj := (pEl_gt hlt _ _ _ _ _ _ e).2 a1 k1 hq
    rcases hc with ⟨_, c1, _, c3⟩ | ⟨_, _, c1, _, c3⟩
    · rw [c3]
      exact (hg i a1 k1 hq (hG.sub (Nat.le_refl _) (by omega))).mono (by omega)
    · rw [c3]
      exact ((hg i a1 k1 hq (hG.sub (Nat.le_refl _) (by omega))).app (dEl_dgs hlt hg m' (a1 + 1) _ _ j h c1 (hG.sub (by omega) (Nat.le_refl _)))).mono (by omega)
theorem dF_dgs (hm : m ≤ 5) {n : Nat} (hE : ∀ l x i j h, pE s t 0 n x i = some (j, h) → Good t m i j → Dgs (dE s t m n l x i) (j - i)) {l f i j h : Nat} (hf : isF s f = true) (hp : pF s t 0 (pE s t 0 n) f i = some (j, h)) (hG : Good t m i j) : Dgs (dF s t m (pE s t 0 n) (dE s t m n) l f i) (j - i) := by
  have hlt := (pF_fwd (most := 0) (fun x i => pE_fwd s t 0 n x i) hf j h hp).1
  have hnz : bt s f ≠ 0 := by intro e; rw [isF, e] at hf; exact absurd hf (by decide)
  unfold pF at hp
  split at hp
  · cases hp
  rename_i hbt
  have hbt' : bt t i = bt s f := by omega
  unfold dF
  cases h2 : cN (bt s f)
  · rw [if_neg (by simp)]
    cases h3 : cO (bt s f)
    · rw [if_neg (by simp)]; exact Dgs.nil _
    · rw [if_pos rfl]
      have hL : cL (bt s f) = false := by have := cO_vals h3; simp [cL]; omega
      rw [if_neg (by simp [hL]), if_neg (by simp [h2])] at hp
      have hel := els_bracket (i := i) h3 hp
      have hGi := hG i (Nat.le_refl _) hlt (by rw [hbt']; exact h3)
      have hjj : i + 1 < j := (pB_fwd (most := 0) (fun x i => pE_fwd s t 0 n x i) (by simpa [cO] using h3) j h hp).1
      unfold dB
      refine Dgs.mono (Dgs.app (q := j - (i + 1)) (dgt_dgs _ (by omega)) ?_) (by omega)
      unfold pB at hp
      split at hp
      · rename_i hh; rw [if_pos hh]; exact Dgs.nil _
      · rename_i hh
        rw [if_neg hh]
        exact dEl_dgs (fun i j h e => (pE_fwd s t 0 n (f + 1) i j h e).1) (fun i' j' h' e' hG' => hE l (f + 1) i' j' h' e' hG') _ _ _ _ _ _ hp (hG.sub (Nat.le_succ i) (Nat.le_refl _))
  · rw [if_pos rfl]
    have hL : cL (bt s f) = false := by
      have hv : 65 ≤ bt s f ∧ bt s f ≤ 90 := by simpa [cN] using h2
      simp [cL]; omega
    rw [if_neg (by simp [hL]), if_pos h2] at hp
    unfold pN at hp
    split at hp
    · cases hp
    cases hq : pE s t 0 n (rl s (bt s f) + 2).toNat (i + 1 + 1) with
    | none => rw [hq] at hp; cases hp
    | some q =>
      obtain ⟨a1, k⟩ := q
      rw [hq] at hp
      simp only at hp
      split at hp
      case isFalse => cases hp
      simp only [Option.some.injEq, Prod.mk.injEq] at hp
      have hfw := (pE_fwd s t 0 n _ _ a1 k hq).1
      exact (hE (l - 1) _ _ _ _ hq (hG.sub (by omega) (by omega))).mono (by omega)
theorem dE_dgs (hm : m ≤ 5) : ∀ n l x i j h, pE s t 0 n x i = some (j, h) → Good t m i j → Dgs (dE s t m n l x i) (j - i)
  | 0, l, x, i, j, h, e, _ => by cases e
  | n + 1, l, x, i, j, h, e, hG => by
    obtain ⟨K, y, hbk, hk9, hka, hpf⟩ := pE_parts e
    have hle1 := pFs_le (fe s y).1 (i + 1) 0 j h (fun f hf i j h e => (pF_fwd (most := 0) (fun x i => pE_fwd s t 0 n x i) (fe_mem hf).1 j h e).1) hpf
    unfold dE
    rw [show (bt t i - 48).toNat = K by omega, hka]
    simp only
    have hw := wayIx_le s l x K
    exact ((dgt_dgs _ (by omega)).app (dFs_dgs (t := t) (m := m) (fe s y).1 (i + 1) 0 j h (fun f hf i j h e => (pF_fwd (most := 0) (fun x i => pE_fwd s t 0 n x i) (fe_mem hf).1 j h e).1)
      (fun f hf i' j' h' e' hG' => dF_dgs hm (fun l x i j h e hG => dE_dgs hm n l x i j h e hG) (fe_mem hf).1 e' hG') hpf (hG.sub (Nat.le_succ i) (Nat.le_refl _)))).mono (by omega)
theorem dgF_of (c : ByteArray) : ∀ n i, (∀ j : Nat, i ≤ j → j < i + n → cD (bt c j) = true) → dgF c n i = true
  | 0, i, _ => rfl
  | n + 1, i, h => by
    unfold dgF
    rw [h i (Nat.le_refl _) (by omega), dgF_of c n (i + 1) (fun j h1 h2 => h j (by omega) (by omega))]; rfl
theorem digs_of {L : List Int} {n : Nat} (h : Dgs L n) : digs (strOfNums L) = true := by
  have hB : Byts L := fun x hx => by have := h.2 x hx; omega
  unfold digs
  refine dgF_of _ _ _ (fun j _ h2 => ?_)
  rw [strOfNums_size, Nat.zero_add] at h2
  rw [bt_strs hB h2]
  have := h.2 L[j] (List.getElem_mem h2)
  simp [cD]; omega
end
end Go.Proofs.Ytnfaiaoipeholaa
