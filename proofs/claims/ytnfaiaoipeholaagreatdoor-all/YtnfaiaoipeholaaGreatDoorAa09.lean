/- CntMath GenMath PGuide -/
import Derived.Test.YtnfaiaoipeholaaGreatDoorAa08
import Derived.Test.YtnfaiaoipeholaaGreatDoorAa04
namespace Go.Proofs.YtnfaiaoipeholaaGreatDoor

/-- the text goes on well; the numbers of alternatives so far, of each expression that is open, the innermost first -/
def goodN (s : ByteArray) : Nat → Nat → List Int → Prop
  | 0, _, _ => False
  | _ + 1, _, [] => False
  | n + 1, i, c :: r => c ≤ 10 ∧ ((cL (bt s i) || cN (bt s i)) = true ∧ goodN s n (i + 1) (c :: r) ∨ bt s i = 124 ∧ goodN s n (i + 1) ((c + 1) :: r) ∨
      cO (bt s i) = true ∧ goodN s n (i + 1) (1 :: c :: r) ∨ cX (bt s i) = true ∧ r ≠ [] ∧ goodN s n (i + 1) r ∨ bt s i = 59 ∧ r = [])
theorem goodN_good (s : ByteArray) : ∀ n i c r, goodN s n i (c :: r) → good s n i r.length
  | 0, i, c, r, h => h.elim
  | n + 1, i, c, r, h => by
    obtain ⟨_, h⟩ := h
    unfold good
    rcases h with ⟨h1, h2⟩ | ⟨h1, h2⟩ | ⟨h1, h2⟩ | ⟨h1, h2, h3⟩ | ⟨h1, h2⟩
    · exact .inl ⟨.inl h1, goodN_good s n _ _ _ h2⟩
    · exact .inl ⟨.inr h1, goodN_good s n _ _ _ h2⟩
    · exact .inr (.inl ⟨h1, goodN_good s n _ _ _ h2⟩)
    · cases r with
      | nil => exact absurd rfl h2
      | cons a r => exact .inr (.inr (.inl ⟨h1, r.length, rfl, goodN_good s n _ _ _ h3⟩))
    · exact .inr (.inr (.inr ⟨h1, by rw [h2]; rfl⟩))
theorem ap_step (s : ByteArray) {i j : Nat} (h : (fe s i).2 = (fe s j).2) (k : Nat) : ap s (k + 1) i = ap s (k + 1) j := by unfold ap; rw [h]
theorem goodN_ap (s : ByteArray) : ∀ n i c r, goodN s n i (c :: r) → (∀ k : Nat, 11 - c ≤ k → ap s k i = none) ∧ (r ≠ [] → ∃ m, m < n ∧ goodN s m (ee s i + 1) r) := by
  intro n
  induction n using Nat.strongRecOn with
  | _ n ih =>
  intro i c r h
  cases n with
  | zero => exact h.elim
  | succ n =>
  obtain ⟨hc10, h⟩ := h
  rcases h with ⟨hc, hg⟩ | ⟨hc, hg⟩ | ⟨hc, hg⟩ | ⟨hc, hr, hg⟩ | ⟨hc, hr⟩
  · have hlt : i < s.size := bt_lt (by intro e; rw [e] at hc; simp [cL, cN] at hc)
    have hf : isF s i = true := by simp [isF, hc]
    have hbh := bh_plain hlt hc
    have h2 : (fe s i).2 = (fe s (i + 1)).2 := by rw [fe_yes hf, hbh]
    obtain ⟨a1, a2⟩ := ih n (by omega) (i + 1) c r hg
    refine ⟨fun k hk => ?_, fun hr => ?_⟩
    · cases k with
      | zero => omega
      | succ k => rw [ap_step s h2]; exact a1 _ hk
    · rw [ee_fac hf, hbh]
      obtain ⟨m, hm, hh⟩ := a2 hr
      exact ⟨m, by omega, hh⟩
  · have hf : isF s i = false := by simp [isF, hc]; decide
    have h2 : (fe s i).2 = i := by rw [fe_no hf]
    obtain ⟨a1, a2⟩ := ih n (by omega) (i + 1) (c + 1) r hg
    refine ⟨fun k hk => ?_, fun hr => ?_⟩
    · cases k with
      | zero => omega
      | succ k =>
        unfold ap
        rw [h2, if_pos hc]
        exact a1 k (by omega)
    · have : ee s i = ee s (i + 1) := by rw [ee_bar (by rw [h2]; exact hc), h2]
      rw [this]
      obtain ⟨m, hm, hh⟩ := a2 hr
      exact ⟨m, by omega, hh⟩
  · have hf : isF s i = true := by simp [isF, hc]
    obtain ⟨_, a2⟩ := ih n (by omega) (i + 1) 1 (c :: r) hg
    obtain ⟨m, hm, hh⟩ := a2 (by simp)
    have hbh := bh_open (goodN_good s n _ _ _ hg) hc
    have h2 : (fe s i).2 = (fe s (ee s (i + 1) + 1)).2 := by rw [fe_yes hf, hbh]
    obtain ⟨b1, b2⟩ := ih m (by omega) (ee s (i + 1) + 1) c r hh
    refine ⟨fun k hk => ?_, fun hr => ?_⟩
    · cases k with
      | zero => omega
      | succ k => rw [ap_step s h2]; exact b1 _ hk
    · rw [ee_fac hf, hbh]
      obtain ⟨m2, hm2, hh2⟩ := b2 hr
      exact ⟨m2, by omega, hh2⟩
  · obtain ⟨n1, n2, n3, n4⟩ := close_not hc
    have hf : isF s i = false := by simp [isF, n1, n2, n3]
    have h2 : (fe s i).2 = i := by rw [fe_no hf]
    refine ⟨fun k hk => ?_, fun _ => ?_⟩
    · cases k with
      | zero => omega
      | succ k => unfold ap; rw [h2, if_neg n4]
    · have : ee s i = i := by rw [ee_end (by rw [h2]; exact n4), h2]
      rw [this]
      exact ⟨n, by omega, hg⟩
  · have hf : isF s i = false := by simp [isF, hc]; decide
    have h2 : (fe s i).2 = i := by rw [fe_no hf]
    refine ⟨fun k hk => ?_, fun h => absurd hr h⟩
    cases k with
    | zero => omega
    | succ k => unfold ap; rw [h2, if_neg (by omega)]
theorem sts_ten {s : ByteArray} {n i : Nat} {r : List Int} (h : goodN s n i (1 :: r)) : (sts s i).length ≤ 10 := by
  have := (goodN_ap s n i 1 r h).1 10 (by omega)
  rw [sts_ap] at this
  exact List.getElem?_eq_none_iff.1 this

/-- the machine's state, turned round -/
theorem goodN_of (s : ByteArray) : ∀ n k op r c, n = s.size - k → Inv 2 op (r ++ [c]) → (fmF s n k 2 op (r ++ [c])).1 = 0 → goodN s n k (c :: r.reverse)
  | 0, k, op, r, c, hn, hi, h => by
    exfalso; unfold fmF at h; rw [if_pos (by simp)] at h; simp at h
  | n + 1, k, op, r, c, hn, hi, h => by
    have hlt : k < s.size := by omega
    have hc10 : c ≤ 10 := (hi.2.2.2.2.2.2 c (by simp)).2
    have hlen := hi.2.2.2.2.2.1 rfl
    by_cases h0 : (mst (bt s k) 2 op (r ++ [c])).1 = 0
    case neg => exfalso; unfold fmF at h; rw [if_pos h0] at h; exact h0 h
    have hf : fmF s (n + 1) k 2 op (r ++ [c]) = fmF s n (k + 1) (mst (bt s k) 2 op (r ++ [c])).2.1 (mst (bt s k) 2 op (r ++ [c])).2.2.1 (mst (bt s k) 2 op (r ++ [c])).2.2.2 := by
      conv => lhs; unfold fmF
      rw [if_neg (by simp [h0])]
    rw [hf] at h
    have hi' := hi.step h0
    refine ⟨hc10, ?_⟩
    cases h1 : cO (bt s k)
    · cases h2 : cX (bt s k)
      · by_cases h3 : bt s k = 124
        · rw [h3, mst_bar] at h h0 hi'
          by_cases hd : 10 ≤ (r ++ [c]).getLastD 0
          · rw [if_pos hd] at h0; simp at h0
          · rw [if_neg hd] at h hi'
            have e1 : (r ++ [c]).dropLast ++ [(r ++ [c]).getLastD 0 + 1] = r ++ [c + 1] := by simp
            simp only [e1] at h hi'
            exact .inr (.inl ⟨h3, goodN_of s n (k + 1) _ _ _ (by omega) hi' h⟩)
        · by_cases h4 : bt s k = 59
          · rw [h4, mst_semi hi.2.2.2.2.1] at h0
            by_cases hn' : op = []
            · subst hn'
              have : r = [] := by
                simp at hlen; exact hlen
              exact .inr (.inr (.inr (.inr ⟨h4, by rw [this]; rfl⟩)))
            · rw [if_neg hn'] at h0; simp at h0
          · cases h5 : (cL (bt s k) || cN (bt s k))
            · rw [mst_bad hi.2.2.2.2.1 h1 h2 h3 h4 h5] at h0; simp at h0
            · rw [mst_plain h5] at h hi'
              exact .inl ⟨rfl, goodN_of s n (k + 1) _ _ _ (by omega) hi' h⟩
      · rw [mst_close h2] at h h0 hi'
        by_cases hd : op ≠ [] ∧ bt s k = op.getLastD 0
        · rw [if_pos hd] at h hi'
          have hl : 0 < op.length := List.length_pos_iff.2 hd.1
          have hr : r ≠ [] := by
            intro e; subst e; have h' : 1 = op.length + 1 := hlen; omega
          have e1 : (r ++ [c]).dropLast = r.dropLast ++ [r.getLast hr] := by rw [List.dropLast_concat_getLast hr]; simp
          have e2 : r.reverse = r.getLast hr :: r.dropLast.reverse := by
            conv => lhs; rw [← List.dropLast_concat_getLast hr]
            simp
          simp only [e1] at h hi'
          refine .inr (.inr (.inr (.inl ⟨rfl, by simpa using hr, ?_⟩)))
          rw [e2]
          exact goodN_of s n (k + 1) _ _ _ (by omega) hi' h
        · rw [if_neg hd] at h0; simp at h0
    · rw [mst_open h1] at h h0 hi'
      by_cases hd : 5 ≤ op.length
      · rw [if_pos hd] at h0; simp at h0
      · rw [if_neg hd] at h hi'
        have := goodN_of s n (k + 1) _ (r ++ [c]) 1 (by omega) hi' h
        exact .inr (.inr (.inl ⟨rfl, by simpa using this⟩))
theorem ten_of (s : ByteArray) : ∀ n k a op al, n = s.size - k → Inv a op al → (fmF s n k a op al).1 = 0 → ∀ f : Nat, k ≤ f → (cO (bt s f) = true ∨ bt s f = 61) → (sts s (f + 1)).length ≤ 10
  | 0, k, a, op, al, hn, hi, h, f, hf, hc => by
    have := bt_lt (s := s) (p := f) (by rcases hc with hc | hc
                                        · intro e; rw [e] at hc; revert hc; decide
                                        · omega)
    omega
  | n + 1, k, a, op, al, hn, hi, h, f, hf, hc => by
    by_cases h0 : (mst (bt s k) a op al).1 = 0
    case neg => exfalso; unfold fmF at h; rw [if_pos h0] at h; exact h0 h
    have hf' : fmF s (n + 1) k a op al = fmF s n (k + 1) (mst (bt s k) a op al).2.1 (mst (bt s k) a op al).2.2.1 (mst (bt s k) a op al).2.2.2 := by
      conv => lhs; unfold fmF
      rw [if_neg (by simp [h0])]
    rw [hf'] at h
    have hi' := hi.step h0
    by_cases e : f = k
    · subst e
      have ha : a = 0 ∨ a = 1 ∨ a = 2 := by have := hi.1; have := hi.2.1; omega
      rcases ha with rfl | rfl | rfl
      · rw [mst_name] at h0
        have hnc : cN (bt s f) = false := by
          rcases hc with hc | hc
          · have := cO_vals hc; simp [cN]; omega
          · rw [hc]; decide
        rw [hnc] at h0; simp at h0
      · rw [mst_eq] at h h0 hi'
        by_cases h61 : bt s f = 61
        · rw [if_pos h61] at h hi'
          exact sts_ten (goodN_of s n (f + 1) [] [] 1 (by omega) hi' h)
        · rw [if_neg h61] at h0; simp at h0
      · rcases hc with hc | hc
        · rw [mst_open hc] at h h0 hi'
          by_cases hd : 5 ≤ op.length
          · rw [if_pos hd] at h0; simp at h0
          · rw [if_neg hd] at h hi'
            exact sts_ten (goodN_of s n (f + 1) _ al 1 (by omega) hi' h)
        · rw [mst_bad hi.2.2.2.2.1 (by rw [hc]; decide) (by rw [hc]; decide) (by omega) (by omega) (by rw [hc]; decide)] at h0; simp at h0
    · exact ten_of s n (k + 1) _ _ _ (by omega) hi' h f (by omega) hc
/-- no expression has more than ten alternatives -/
structure Ten (s : ByteArray) : Prop where
  sub : ∀ f : Nat, cO (bt s f) = true → (sts s (f + 1)).length ≤ 10
  rule : ∀ j : Nat, j < s.size → begB s j = true → (sts s (j + 2)).length ≤ 10
theorem ten_chk {s : ByteArray} (h : (chk s).1 = 0) : Ten s := by
  have g := gram_of h
  unfold chk at h
  by_cases h1 : 300 < s.size
  · rw [if_pos h1] at h; simp at h
  rw [if_neg h1] at h
  by_cases h2 : (fmF s s.size 0 0 [] []).1 = 0
  case neg => rw [if_pos h2] at h; exact absurd h h2
  have ht := ten_of s s.size 0 0 [] [] (by omega) Inv.start h2
  exact ⟨fun f hf => ht f (by omega) (.inl hf), fun j hj hb => ht (j + 1) (by omega) (.inr (g.rule j hj hb).2.1)⟩
end Go.Proofs.YtnfaiaoipeholaaGreatDoor

namespace Go.Proofs.YtnfaiaoipeholaaGreatDoor

/-- the alternatives that fit -/
def fitL (s : ByteArray) (l x : Nat) : List Nat := (List.range (sts s x).length).filter fun k => altFit s (nFit s l) (expFit s (nFit s l)) (fe s ((sts s x).getD k 0)).1
/-- the digit that is taken -/
def dig (c : ByteArray) (a : Nat) : Nat := if cD (bt c a) = true then (bt c a - 48).toNat else 0
def wayN (c : ByteArray) (a n : Nat) : Nat := if n < 2 then 0 else dig c a % n
def wayA (a n : Nat) : Nat := if n < 2 then a else a + 1
theorem wayN_lt (c : ByteArray) (a n : Nat) (h : 0 < n) : wayN c a n < n := by
  unfold wayN; split
  · exact h
  · exact Nat.mod_lt _ h
theorem wayA_le (a n : Nat) : a ≤ wayA a n ∧ wayA a n ≤ a + 1 := by unfold wayA; split <;> omega
/-- how few and how many may be in a bracket -/
def few (c : Int) : Nat := if c = 40 ∨ c = 60 then 1 else 0
def grt (m : Nat) (c : Int) : Nat := if c = 40 ∨ c = 91 then 1 else m
def cnt (s : ByteArray) (m l f : Nat) : Nat := if expFit s (nFit s l) (f + 1) = true then grt m (bt s f) - few (bt s f) + 1 else 1

/-- elements, with commas between -/
def elsG (rec : Nat → Nat × List Int) (a : Nat) : Nat → Nat × List Int
  | 0 => (a, [])
  | i + 1 => ((rec (elsG rec a i).1).1, (elsG rec a i).2 ++ ((if i = 0 then [] else [44]) ++ (rec (elsG rec a i).1).2))
/-- factors -/
def facsG (g : Nat → Nat → Nat × List Int) : List Nat → Nat → Nat × List Int
  | [], a => (a, [])
  | f :: L, a => ((facsG g L (g f a).1).1, (g f a).2 ++ (facsG g L (g f a).1).2)
/-- behind a name's mark -/
def genN (s : ByteArray) (rec : Nat → Nat → Nat → Nat × List Int) (l f a : Nat) : Nat × List Int :=
  ((rec (l - 1) (rl s (bt s f) + 2).toNat a).1, 40 :: ((rec (l - 1) (rl s (bt s f) + 2).toNat a).2 ++ [41]))
/-- behind a bracket that opens -/
def genB (s c : ByteArray) (m : Nat) (rec : Nat → Nat → Nat → Nat × List Int) (l f a : Nat) : Nat × List Int :=
  ((elsG (rec l (f + 1)) (wayA a (cnt s m l f)) (few (bt s f) + wayN c a (cnt s m l f))).1, (elsG (rec l (f + 1)) (wayA a (cnt s m l f)) (few (bt s f) + wayN c a (cnt s m l f))).2 ++ [cC (bt s f)])
/-- a factor -/
def genF (s c : ByteArray) (m : Nat) (rec : Nat → Nat → Nat → Nat × List Int) (l f a : Nat) : Nat × List Int :=
  if cN (bt s f) = true then ((genN s rec l f a).1, bt s f :: (genN s rec l f a).2)
  else if cO (bt s f) = true then ((genB s c m rec l f a).1, bt s f :: (genB s c m rec l f a).2)
  else (a, [bt s f])
/-- the alternative that is gone -/
def gone (s c : ByteArray) (l x a : Nat) : Nat := (fitL s l x).getD (wayN c a (fitL s l x).length) 0
/-- an expression -/
def genE (s c : ByteArray) (m : Nat) : Nat → Nat → Nat → Nat → Nat × List Int
  | 0, _, _, a => (a, [])
  | n + 1, l, x, a =>
    ((facsG (genF s c m (genE s c m n) l) (fe s ((sts s x).getD (gone s c l x a) 0)).1 (wayA a (fitL s l x).length)).1,
      (48 + (gone s c l x a : Int)) :: (facsG (genF s c m (genE s c m n) l) (fe s ((sts s x).getD (gone s c l x a) 0)).1 (wayA a (fitL s l x).length)).2)
theorem fitL_ne {s : ByteArray} {l x : Nat} (h : expFit s (nFit s l) x = true) : 0 < (fitL s l x).length := by
  rw [expFit_step, List.any_eq_true] at h
  obtain ⟨a, ha, hh⟩ := h
  obtain ⟨k, hk, rfl⟩ := List.getElem_of_mem ha
  refine List.length_pos_iff.2 (List.ne_nil_of_mem (a := k) ?_)
  unfold fitL
  rw [List.mem_filter]
  refine ⟨by simpa using hk, ?_⟩
  rw [List.getD_eq_getElem?_getD, List.getElem?_eq_getElem hk]
  exact hh
theorem fitL_mem {s : ByteArray} {l x k : Nat} (h : k ∈ fitL s l x) : k < (sts s x).length ∧ ∀ f ∈ (fe s ((sts s x).getD k 0)).1, facFit s (nFit s l) (expFit s (nFit s l)) f = true := by
  unfold fitL at h
  rw [List.mem_filter] at h
  refine ⟨by simpa using h.1, ?_⟩
  have := h.2
  unfold altFit at this
  rw [List.all_eq_true] at this
  exact this
theorem fitL_len (s : ByteArray) (l x : Nat) : (fitL s l x).length ≤ (sts s x).length := by
  have := List.length_filter_le (fun k => altFit s (nFit s l) (expFit s (nFit s l)) (fe s ((sts s x).getD k 0)).1) (List.range (sts s x).length)
  simpa [fitL] using this
theorem gone_mem {s c : ByteArray} {l x a : Nat} (h : expFit s (nFit s l) x = true) : gone s c l x a ∈ fitL s l x := by
  have h1 := wayN_lt c a _ (fitL_ne h)
  unfold gone
  rw [List.getD_eq_getElem?_getD, List.getElem?_eq_getElem h1]
  exact List.getElem_mem h1

/-- what has been made of what is to be made: all of it, or more than may be -/
def Ends (T : List Int) (p : Nat × List Int) (a : Nat) (T' : List Int) : Prop :=
  T.length ≤ T'.length ∧ (T.length + p.2.length ≤ 2000 → a = p.1 ∧ T' = T ++ p.2) ∧ (2000 < T.length + p.2.length → 2000 < T'.length)
theorem Ends.put (T l : List Int) (a : Nat) : Ends T (a, l) a (T ++ l) := ⟨by simp, fun _ => ⟨rfl, rfl⟩, fun h => by simpa using h⟩
theorem Ends.nil (T : List Int) (a : Nat) : Ends T (a, []) a T := ⟨Nat.le_refl _, fun _ => ⟨rfl, by simp⟩, fun h => by simpa using h⟩
theorem Ends.seq {T T1 T2 : List Int} {p : Nat × List Int} {q : Nat → Nat × List Int} {a1 a2 : Nat} (h1 : Ends T p a1 T1) (h2 : Ends T1 (q a1) a2 T2) : Ends T ((q p.1).1, p.2 ++ (q p.1).2) a2 T2 := by
  obtain ⟨m1, e1, b1⟩ := h1
  obtain ⟨m2, e2, b2⟩ := h2
  refine ⟨by omega, fun h => ?_, fun h => ?_⟩
  · simp only [List.length_append] at h
    obtain ⟨r1, r2⟩ := e1 (by omega)
    subst r1 r2
    obtain ⟨r3, r4⟩ := e2 (by simp only [List.length_append]; omega)
    exact ⟨r3, by rw [r4]; simp⟩
  · simp only [List.length_append] at h
    by_cases hb : T.length + p.2.length ≤ 2000
    · obtain ⟨r1, r2⟩ := e1 hb
      subst r1 r2
      exact b2 (by simp only [List.length_append]; omega)
    · have := b1 (by omega); omega
theorem Ends.cut {T T1 : List Int} {p : Nat × List Int} {a1 : Nat} (h1 : Ends T p a1 T1) (hb : 2000 < T1.length) (x : Nat) (q : List Int) : Ends T (x, p.2 ++ q) a1 T1 := by
  obtain ⟨m1, e1, b1⟩ := h1
  refine ⟨m1, fun h => ?_, fun _ => hb⟩
  simp only [List.length_append] at h
  obtain ⟨_, r2⟩ := e1 (by omega)
  subst r2
  simp only [List.length_append] at hb; omega
theorem Ends.skip {T : List Int} (hb : 2000 < T.length) (p : Nat × List Int) (a : Nat) : Ends T p a T := ⟨Nat.le_refl _, fun h => by omega, fun _ => hb⟩
theorem Ends.seq' {T T1 T2 : List Int} {p r : Nat × List Int} {q : Nat → Nat × List Int} {a1 a2 : Nat} (h1 : Ends T p a1 T1) (h2 : Ends T1 (q a1) a2 T2) (e : r = ((q p.1).1, p.2 ++ (q p.1).2)) : Ends T r a2 T2 := by rw [e]; exact h1.seq h2

/-- how much is to be made, at most -/
def dep (s : ByteArray) (l x : Nat) : Nat := l * (s.size + 2) + (s.size + 1 - x)
theorem dep_sub {s : ByteArray} {l x f : Nat} (h1 : x ≤ f) (h2 : f < s.size) : dep s l (f + 1) < dep s l x := by unfold dep; omega
theorem dep_name {s : ByteArray} {l x y : Nat} (h1 : x ≤ s.size) (h : 0 < l) : dep s (l - 1) y < dep s l x := by
  obtain ⟨k, rfl⟩ : ∃ k, l = k + 1 := ⟨l - 1, by omega⟩
  unfold dep
  rw [Nat.add_sub_cancel, Nat.succ_mul]; omega
end Go.Proofs.YtnfaiaoipeholaaGreatDoor

namespace Go.Proofs.YtnfaiaoipeholaaGreatDoor
open Go.RowKit

/-- a guide in memory -/
structure Gd (w : World) (b : Nat) (s : ByteArray) (m : Int) (P : Nat → Int) : Prop where
  gram : w.cell? ⟨b, 0, none⟩ = some (.string s)
  most : w.cell? ⟨b, 1, none⟩ = some (.int .i64 m)
  low : ∀ i, i < 26 → w.cell? ⟨b, 2 + i, none⟩ = some (.int .i64 (P i))
/-- which names fit -/
def nmP (P : Nat → Int) (left : Int) (i : Nat) : Bool := decide (P i < left)
/-- how many alternatives fit, of the first so many -/
def wayK (s : ByteArray) (N : Nat → Bool) (x k : Nat) : Nat := ((List.range k).filter fun j => altFit s N (expFit s N) (fe s ((sts s x).getD j 0)).1).length
theorem wayK_yes {s : ByteArray} {N : Nat → Bool} {x k a : Nat} (ha : ap s k x = some a) (h : altFit s N (expFit s N) (fe s a).1 = true) : wayK s N x (k + 1) = wayK s N x k + 1 := by
  have e : (sts s x)[k]?.getD 0 = a := by rw [← sts_ap, ha]; rfl
  unfold wayK; rw [List.range_succ, List.filter_append]; simp [List.filter, e, h]
theorem wayK_no {s : ByteArray} {N : Nat → Bool} {x k a : Nat} (ha : ap s k x = some a) (h : altFit s N (expFit s N) (fe s a).1 = false) : wayK s N x (k + 1) = wayK s N x k := by
  have e : (sts s x)[k]?.getD 0 = a := by rw [← sts_ap, ha]; rfl
  unfold wayK; rw [List.range_succ, List.filter_append]; simp [List.filter, e, h]
theorem expFit_way {s : ByteArray} {N : Nat → Bool} {x : Nat} : expFit s N x = decide (0 < wayK s N x (sts s x).length) := by
  rw [Bool.eq_iff_iff, expFit_step, List.any_eq_true, decide_eq_true_eq]
  unfold wayK
  rw [List.length_pos_iff_exists_mem]
  constructor
  · rintro ⟨a, ha, hh⟩
    obtain ⟨k, hk, rfl⟩ := List.getElem_of_mem ha
    refine ⟨k, ?_⟩
    rw [List.mem_filter]
    refine ⟨by simpa using hk, ?_⟩
    rw [List.getD_eq_getElem?_getD, List.getElem?_eq_getElem hk]; exact hh
  · rintro ⟨k, hk⟩
    rw [List.mem_filter] at hk
    obtain ⟨h1, h2⟩ := hk
    have h1' : k < (sts s x).length := by simpa using h1
    rw [List.getD_eq_getElem?_getD, List.getElem?_eq_getElem h1'] at h2
    exact ⟨_, List.getElem_mem h1', h2⟩

section
variable {s : ByteArray} {m : Int} {P : Nat → Int} {left : Int}

def SaidG (s : ByteArray) (m : Int) (P : Nat → Int) (left : Int) (n : Nat) : Prop :=
  ∀ (q : Int) (x b : Nat) (w : World), Gd w b s m P → q = x → x ≤ s.size → s.size < x + n → (sts s x).length ≤ 10 →
    Calls Tryz.prog 94 #[.pointer (some ⟨b, 0, none⟩), .int .i64 q, .int .i64 left] w fun e w' => e = .returned (.bool (expFit s (nmP P left) x)) ∧ w' = w

set_option maxHeartbeats 400000 in
theorem fewest_any (c : Int) (w : World) : Calls Tryz.prog 93 #[.int .u8 c] w fun e w' => e = .returned (.int .i64 (few c)) ∧ w' = w := by
  go_enter Tryz.func93, Tryz.ntmps93
  go_wp2
  all_goals (go_ret; exact ⟨ret_int (by simp_all [few]), rfl⟩)

set_option maxHeartbeats 1000000 in
theorem factorFits_any (ten : Ten s) (hs : s.size ≤ 300) {n : Nat} (hX : SaidG s m P left n) (q : Int) (f b : Nat) (w : World) (gd : Gd w b s m P) (hq : q = f) (hf : isF s f = true) (hn : s.size < f + 1 + n) :
    Calls Tryz.prog 52 #[.pointer (some ⟨b, 0, none⟩), .int .i64 q, .int .i64 left] w fun e w' => e = .returned (.bool (facFit s (nmP P left) (expFit s (nmP P left)) f)) ∧ w' = w := by
  subst hq
  have hs' : s.size ≤ maxLen := by unfold maxLen; omega
  have hl := isF_lt hf
  have c0 := gd.gram
  cases h2 : cN (bt s f)
  · cases h3 : cO (bt s f)
    · have hr : facFit s (nmP P left) (expFit s (nmP P left)) f = true := by
        unfold facFit; rw [if_neg (by simp [h2]), if_neg]
        intro h; rcases h with h | h <;> rw [h] at h3 <;> revert h3 <;> decide
      rw [hr]
      have h2' := hide h2; have h3' := hide h3
      clear h2 h3 hr hX
      go_enter Tryz.func52, Tryz.ntmps52
      go_wp2_with (first | (go_at_call 87; refine (at_any _ _ _ hs').mono ?_; rintro e w' ⟨rfl, rfl⟩) | (go_at_call 86; refine (isName_any _ _).mono ?_; rintro e w' ⟨rfl, rfl⟩; rw [unhide h2']) | (go_at_call 92; refine (isOpening_any _ _).mono ?_; rintro e w' ⟨rfl, rfl⟩; rw [unhide h3']))
      go_ret; exact ⟨rfl, rfl⟩
    · by_cases h4 : bt s f = 40 ∨ bt s f = 60
      · have hr : facFit s (nmP P left) (expFit s (nmP P left)) f = expFit s (nmP P left) (f + 1) := by
          unfold facFit; rw [if_neg (by simp [h2]), if_pos h4]
        rw [hr]
        have h4' : Hid (few (bt s f) = 1) := hide (by unfold few; rw [if_pos h4])
        have ht := hide (ten.sub f h3)
        have h2' := hide h2; have h3' := hide h3
        clear h2 h3 h4 hr
        go_enter Tryz.func52, Tryz.ntmps52
        go_wp2_with (first | (go_at_call 87; refine (at_any _ _ _ hs').mono ?_; rintro e w' ⟨rfl, rfl⟩) | (go_at_call 86; refine (isName_any _ _).mono ?_; rintro e w' ⟨rfl, rfl⟩; rw [unhide h2']) | (go_at_call 92; refine (isOpening_any _ _).mono ?_; rintro e w' ⟨rfl, rfl⟩; rw [unhide h3']) | (go_at_call 93; refine (fewest_any _ _).mono ?_; rintro e w' ⟨rfl, rfl⟩; rw [unhide h4']) | (go_at_call 94; refine (hX _ (f + 1) b _ gd (by go_num) (by omega) (by omega) (unhide ht)).mono ?_; rintro e w' ⟨rfl, rfl⟩))
        go_ret; exact ⟨rfl, rfl⟩
      · have hr : facFit s (nmP P left) (expFit s (nmP P left)) f = true := by
          unfold facFit; rw [if_neg (by simp [h2]), if_neg h4]
        rw [hr]
        have h4' : Hid (few (bt s f) = 0) := hide (by unfold few; rw [if_neg h4])
        have h2' := hide h2; have h3' := hide h3
        clear h2 h3 h4 hr hX
        go_enter Tryz.func52, Tryz.ntmps52
        go_wp2_with (first | (go_at_call 87; refine (at_any _ _ _ hs').mono ?_; rintro e w' ⟨rfl, rfl⟩) | (go_at_call 86; refine (isName_any _ _).mono ?_; rintro e w' ⟨rfl, rfl⟩; rw [unhide h2']) | (go_at_call 92; refine (isOpening_any _ _).mono ?_; rintro e w' ⟨rfl, rfl⟩; rw [unhide h3']) | (go_at_call 93; refine (fewest_any _ _).mono ?_; rintro e w' ⟨rfl, rfl⟩; rw [unhide h4']))
        go_ret; exact ⟨rfl, rfl⟩
  · have hv : 65 ≤ bt s f ∧ bt s f ≤ 90 := by simpa [cN] using h2
    obtain ⟨hv1, hv2⟩ := hv
    have hr : facFit s (nmP P left) (expFit s (nmP P left)) f = decide (P (bt s f - 65).toNat < left) := by
      unfold facFit nmP; rw [if_pos h2]
    rw [hr]
    have c1 := gd.low (bt s f - 65).toNat (by omega)
    have hix : bt s f - 65 < 26 := by omega
    have hix0 : 0 ≤ bt s f - 65 := by omega
    have h2' := hide h2
    clear h2 hr hX
    go_enter Tryz.func52, Tryz.ntmps52
    go_wp2_with (first | (go_at_call 87; refine (at_any _ _ _ hs').mono ?_; rintro e w' ⟨rfl, rfl⟩) | (go_at_call 86; refine (isName_any _ _).mono ?_; rintro e w' ⟨rfl, rfl⟩; rw [unhide h2']))
    go_ret; exact ⟨rfl, rfl⟩

set_option maxHeartbeats 1000000 in
theorem alternativeFits_any (ten : Ten s) (hs : s.size ≤ 300) {n : Nat} (hX : SaidG s m P left n) (q : Int) (a b : Nat) (w : World) (gd : Gd w b s m P) (hq : q = a) (ha : a ≤ 302) (hn : s.size < a + 1 + n) :
    Calls Tryz.prog 165 #[.pointer (some ⟨b, 0, none⟩), .int .i64 q, .int .i64 left] w fun e w' => e = .returned (.bool (altFit s (nmP P left) (expFit s (nmP P left)) (fe s a).1)) ∧ w' = w := by
  subst hq
  have c0 := gd.gram
  go_enter Tryz.func165, Tryz.ntmps165
  go_wp2
  go_loop [7] (fun i => ∃ (k : Nat), a ≤ k ∧ k ≤ 302 ∧ i = .int .i64 k ∧ Hid (altFit s (nmP P left) (expFit s (nmP P left)) (fe s a).1 = altFit s (nmP P left) (expFit s (nmP P left)) (fe s k).1)) (fun i => s.size - (intOf i).toNat)
  case atStart => exact ⟨a, by omega, ha, rfl, hide rfl⟩
  case round =>
    obtain ⟨k, hak, hk, rfl, hr⟩ := hrel
    cases h1 : isF s k
    · have hR : Hid (altFit s (nmP P left) (expFit s (nmP P left)) (fe s a).1 = true) := hide (by rw [unhide hr, fe_no h1]; rfl)
      have h1' := hide h1; clear h1 hr
      go_wp2_with (go_at_call 168; refine (isFactor_any _ _ k _ hs rfl).mono ?_; rintro e w' ⟨rfl, rfl⟩; rw [unhide h1'])
      go_ret
      exact ⟨ret_bool (by rw [unhide hR]), rfl⟩
    · have hb := bh_bd h1
      have hl := isF_lt h1
      have hF := hide h1
      cases h2 : facFit s (nmP P left) (expFit s (nmP P left)) k
      · have hR : Hid (altFit s (nmP P left) (expFit s (nmP P left)) (fe s a).1 = false) := hide (by rw [unhide hr, fe_yes h1]; simp [altFit, h2])
        have h1' := hide h1; have h2' := hide h2; clear h1 h2 hr
        go_wp2_with (first | (go_at_call 168; refine (isFactor_any _ _ k _ hs rfl).mono ?_; rintro e w' ⟨rfl, rfl⟩; rw [unhide h1']) | (go_at_call 52; refine (factorFits_any ten hs hX _ k b _ gd rfl (unhide hF) (by omega)).mono ?_; rintro e w' ⟨rfl, rfl⟩; rw [unhide h2']))
        go_ret
        exact ⟨ret_bool (by rw [unhide hR]), rfl⟩
      · have hR : Hid (altFit s (nmP P left) (expFit s (nmP P left)) (fe s a).1 = altFit s (nmP P left) (expFit s (nmP P left)) (fe s (bh s k)).1) := hide (by rw [unhide hr, fe_yes h1]; simp [altFit, h2])
        have h1' := hide h1; have h2' := hide h2; clear h1 h2 hr
        go_wp2_with (first | (go_at_call 168; refine (isFactor_any _ _ k _ hs rfl).mono ?_; rintro e w' ⟨rfl, rfl⟩; rw [unhide h1']) | (go_at_call 52; refine (factorFits_any ten hs hX _ k b _ gd rfl (unhide hF) (by omega)).mono ?_; rintro e w' ⟨rfl, rfl⟩; rw [unhide h2']) | (go_at_call 169; refine (behind_any _ _ k _ hs rfl (by omega)).mono ?_; rintro e w' ⟨rfl, rfl⟩))
        go_round
        case rel => exact ⟨bh s k, by omega, by omega, rfl, hide (unhide hR)⟩
        case measure => simp [intOf]; omega

set_option maxHeartbeats 1000000 in
theorem alternatives_any (ten : Ten s) (hs : s.size ≤ 300) {n : Nat} (hX : SaidG s m P left n) (q bq : Int) (x below b : Nat) (w : World) (gd : Gd w b s m P) (hq : q = x) (hx : x ≤ 302) (hbq : bq = below) (hb10 : below ≤ 10) (hn : s.size < x + 1 + n) :
    Calls Tryz.prog 136 #[.pointer (some ⟨b, 0, none⟩), .int .i64 q, .int .i64 left, .int .i64 bq] w fun e w' => e = .returned (.int .i64 (wayK s (nmP P left) x (min below (sts s x).length))) ∧ w' = w := by
  subst hq hbq
  have c0 := gd.gram
  generalize hL : (sts s x).length = len
  have HL := hide hL; clear hL
  go_enter Tryz.func136, Tryz.ntmps136
  go_wp2
  go_loop [9, 10, 11] (fun wv pv i => ∃ (k : Nat) (y : Int) (wy : Nat), k ≤ below ∧ k ≤ len ∧ i = .int .i64 k ∧ pv = .int .i64 y ∧ wv = .int .i64 wy ∧ wy ≤ k ∧ Hid (y = pl (ap s k x)) ∧ Hid (wy = wayK s (nmP P left) x k)) (fun _ _ i => below - (intOf i).toNat)
  case atStart => exact ⟨0, x, 0, by omega, by omega, rfl, rfl, rfl, by omega, hide rfl, hide rfl⟩
  case round =>
    obtain ⟨k, y, wy, hk, hkl, rfl, rfl, rfl, hwy, hr, hw⟩ := hrel
    by_cases hlt : k < below
    · cases ho : ap s k x with
      | none =>
        have hy : y = -1 := by rw [unhide hr, ho]; rfl
        have hlen : k = len := by
          rw [sts_ap] at ho
          have := List.getElem?_eq_none_iff.1 ho
          rw [unhide HL] at this; omega
        have HR : Hid (wy = wayK s (nmP P left) x (min below len)) := hide (by rw [unhide hw]; congr 1; omega)
        subst hy
        clear hr ho hw
        go_wp2
        go_ret
        exact ⟨ret_int (by rw [unhide HR]), rfl⟩
      | some z =>
        have hy : y = z := by rw [unhide hr, ho]; rfl
        have hz := ap_bd ho
        have hlen : k < len := by
          have h' := ho
          rw [sts_ap] at h'
          have := (List.getElem?_eq_some_iff.1 h').1
          rw [unhide HL] at this; exact this
        have hne : ((z : Int) != -1) = true := pl_ne z
        have HA : Hid (pl (nx s z) = pl (ap s (k + 1) x)) := hide (by rw [ap_nx s k x z ho])
        subst hy
        cases h2 : altFit s (nmP P left) (expFit s (nmP P left)) (fe s z).1
        · have HW : Hid (wy = wayK s (nmP P left) x (k + 1)) := hide (by rw [unhide hw, wayK_no ho h2])
          have h2' := hide h2; clear h2 hr ho hw
          go_wp2_with (first | (go_at_call 165; refine (alternativeFits_any ten hs hX _ z b _ gd rfl (by omega) (by omega)).mono ?_; rintro e w' ⟨rfl, rfl⟩; rw [unhide h2']) | (go_at_call 166; refine (next_any _ _ z _ hs rfl (by omega)).mono ?_; rintro e w' ⟨rfl, rfl⟩))
          go_round
          case rel => exact ⟨k + 1, _, wy, by omega, by omega, by go_num, rfl, rfl, by omega, hide (unhide HA), hide (unhide HW)⟩
          case measure => simp [intOf]; omega
        · have HW : Hid (wy + 1 = wayK s (nmP P left) x (k + 1)) := hide (by rw [unhide hw, wayK_yes ho h2])
          have h2' := hide h2; clear h2 hr ho hw
          go_wp2_with (first | (go_at_call 165; refine (alternativeFits_any ten hs hX _ z b _ gd rfl (by omega) (by omega)).mono ?_; rintro e w' ⟨rfl, rfl⟩; rw [unhide h2']) | (go_at_call 166; refine (next_any _ _ z _ hs rfl (by omega)).mono ?_; rintro e w' ⟨rfl, rfl⟩))
          go_round
          case rel => exact ⟨k + 1, _, wy + 1, by omega, by omega, by go_num, rfl, by go_num, by omega, hide (unhide HA), hide (unhide HW)⟩
          case measure => simp [intOf]; omega
    · have HR : Hid (wy = wayK s (nmP P left) x (min below len)) := hide (by rw [unhide hw]; congr 1; omega)
      clear hr hw
      go_wp2
      go_ret
      exact ⟨ret_int (by rw [unhide HR]), rfl⟩

set_option maxHeartbeats 1000000 in
theorem expressionFits_any (ten : Ten s) (hs : s.size ≤ 300) {n : Nat} (hX : SaidG s m P left n) : SaidG s m P left (n + 1) := by
  intro q x b w gd hq hx hn ht
  subst hq
  have e : expFit s (nmP P left) x = decide (0 < wayK s (nmP P left) x (min 10 (sts s x).length)) := by
    rw [expFit_way, Nat.min_eq_right ht]
  rw [e]
  clear e ht
  go_enter Tryz.func94, Tryz.ntmps94
  go_wp2_with (go_at_call 136; refine (alternatives_any ten hs hX _ _ x 10 b _ gd rfl (by omega) rfl (by omega) (by omega)).mono ?_; rintro e w' ⟨rfl, rfl⟩)
  go_ret; exact ⟨rfl, rfl⟩
theorem expressionFits_all (ten : Ten s) (hs : s.size ≤ 300) : ∀ n, SaidG s m P left n
  | 0 => fun q x b w gd hq hx hn ht => by omega
  | n + 1 => expressionFits_any ten hs (expressionFits_all ten hs n)

/-- the way's own alternative -/
theorem fit_at {p : Nat → Bool} {k : Nat} (hp : p k = true) : ∀ len, k < len → ((List.range len).filter p)[((List.range k).filter p).length]? = some k
  | 0, h => by omega
  | len + 1, h => by
    rw [List.range_succ, List.filter_append]
    by_cases e : k = len
    · subst e; simp [List.filter, hp]
    · have ih := fit_at hp len (by omega)
      rw [List.getElem?_append_left (List.getElem?_eq_some_iff.1 ih).1]; exact ih
theorem wayK_at {s : ByteArray} {N : Nat → Bool} {x k way : Nat} (h1 : wayK s N x (min k (sts s x).length) ≤ way) (h2 : way < wayK s N x (min (k + 1) (sts s x).length)) :
    ((List.range (sts s x).length).filter fun j => altFit s N (expFit s N) (fe s ((sts s x).getD j 0)).1)[way]? = some k := by
  by_cases hk : k < (sts s x).length
  · rw [Nat.min_eq_left (by omega)] at h1 h2
    obtain ⟨a, ha⟩ : ∃ a, ap s k x = some a := by rw [sts_ap]; exact ⟨_, List.getElem?_eq_getElem hk⟩
    have e : (sts s x)[k]?.getD 0 = a := by rw [← sts_ap, ha]; rfl
    cases h3 : altFit s N (expFit s N) (fe s a).1
    · rw [wayK_no ha h3] at h2; omega
    · rw [wayK_yes ha h3] at h2
      have hw : way = wayK s N x k := by omega
      rw [hw]
      exact fit_at (p := fun j => altFit s N (expFit s N) (fe s ((sts s x).getD j 0)).1) (by simpa [e] using h3) _ hk
  · rw [Nat.min_eq_right (by omega)] at h1 h2; omega

set_option maxHeartbeats 1000000 in
theorem alternative_way (ten : Ten s) (hs : s.size ≤ 300) (q wq : Int) (x way b : Nat) (w : World) (gd : Gd w b s m P) (hq : q = x) (hx : x ≤ s.size) (hwq : wq = way) (ht : (sts s x).length ≤ 10) (hway : way < wayK s (nmP P left) x (sts s x).length) :
    Calls Tryz.prog 167 #[.pointer (some ⟨b, 0, none⟩), .int .i64 q, .int .i64 left, .int .i64 wq] w fun e w' => e = .returned (.int .i64 (((List.range (sts s x).length).filter fun j => altFit s (nmP P left) (expFit s (nmP P left)) (fe s ((sts s x).getD j 0)).1).getD way 0 : Nat)) ∧ w' = w := by
  subst hq hwq
  have hX : SaidG s m P left (s.size + 1) := expressionFits_all ten hs _
  generalize hR : ((List.range (sts s x).length).filter fun j => altFit s (nmP P left) (expFit s (nmP P left)) (fe s ((sts s x).getD j 0)).1).getD way 0 = R
  have HR := hide hR
  have HT := hide ht
  have HW := hide hway
  clear hR ht hway
  go_enter Tryz.func167, Tryz.ntmps167
  go_wp2
  go_loop [9] (fun i => ∃ (k : Nat), k ≤ 10 ∧ i = .int .i64 k ∧ Hid (wayK s (nmP P left) x (min k (sts s x).length) ≤ way)) (fun i => 10 - (intOf i).toNat)
  case atStart => exact ⟨0, by omega, rfl, hide (by simp [wayK])⟩
  case round =>
    obtain ⟨k, hk, rfl, hr⟩ := hrel
    by_cases hlt : k < 10
    · by_cases hgt : way < wayK s (nmP P left) x (min (k + 1) (sts s x).length)
      · have HF : Hid (R = k) := hide (by
          rw [← unhide HR, List.getD_eq_getElem?_getD, wayK_at (unhide hr) hgt]; rfl)
        clear hr
        go_wp2_with (go_at_call 136; refine (alternatives_any ten hs hX _ _ x (k + 1) b _ gd rfl (by omega) (by go_num) (by omega) (by omega)).mono ?_; rintro e w' ⟨rfl, rfl⟩)
        go_ret
        exact ⟨ret_int (by rw [unhide HF]), rfl⟩
      · have HF := hide hgt
        clear hr
        go_wp2_with (go_at_call 136; refine (alternatives_any ten hs hX _ _ x (k + 1) b _ gd rfl (by omega) (by go_num) (by omega) (by omega)).mono ?_; rintro e w' ⟨rfl, rfl⟩)
        go_round
        case rel => exact ⟨k + 1, by omega, by go_num, hide (by have := unhide HF; omega)⟩
        case measure => simp [intOf]; omega
    · exfalso
      have h1 := unhide hr
      have h2 := unhide HT
      have h3 := unhide HW
      rw [Nat.min_eq_right (by omega)] at h1
      omega

set_option maxHeartbeats 400000 in
theorem greatest_any (c : Int) (mm b : Nat) (w : World) (gd : Gd w b s mm P) : Calls Tryz.prog 170 #[.pointer (some ⟨b, 0, none⟩), .int .u8 c] w fun e w' => e = .returned (.int .i64 (grt mm c)) ∧ w' = w := by
  have c1 := gd.most
  by_cases h40 : c = 40
  · subst h40
    go_enter Tryz.func170, Tryz.ntmps170
    go_wp2
    all_goals (go_ret; exact ⟨rfl, rfl⟩)
  · by_cases h91 : c = 91
    · subst h91
      go_enter Tryz.func170, Tryz.ntmps170
      go_wp2
      all_goals (go_ret; exact ⟨rfl, rfl⟩)
    · have e : grt mm c = mm := by unfold grt; rw [if_neg (by omega)]
      rw [e]
      have h40' : (c == 40) = false := by simp [h40]
      have h91' : (c == 91) = false := by simp [h91]
      go_enter Tryz.func170, Tryz.ntmps170
      go_wp2
      all_goals (go_ret; exact ⟨rfl, rfl⟩)

/-- how many ways a bracket has -/
def cntP (s : ByteArray) (N : Nat → Bool) (m f : Nat) : Nat := if expFit s N (f + 1) = true then grt m (bt s f) - few (bt s f) + 1 else 1
set_option maxHeartbeats 1000000 in
theorem counts_any (ten : Ten s) (hs : s.size ≤ 300) (q : Int) (f mm b : Nat) (w : World) (gd : Gd w b s mm P) (hm : 1 ≤ mm ∧ mm ≤ 5) (hq : q = f) (hf : isF s f = true) (hc : cO (bt s f) = true) :
    Calls Tryz.prog 138 #[.pointer (some ⟨b, 0, none⟩), .int .i64 q, .int .i64 left] w fun e w' => e = .returned (.int .i64 (cntP s (nmP P left) mm f)) ∧ w' = w := by
  subst hq
  have hX : SaidG s mm P left (s.size + 1) := expressionFits_all ten hs _
  have hs' : s.size ≤ maxLen := by unfold maxLen; omega
  have hl := isF_lt hf
  have c0 := gd.gram
  have ht := hide (ten.sub f hc)
  clear hc hf
  cases h1 : expFit s (nmP P left) (f + 1)
  · have e : cntP s (nmP P left) mm f = 1 := by unfold cntP; rw [if_neg (by simp [h1])]
    rw [e]
    have h1' := hide h1; clear h1 e
    go_enter Tryz.func138, Tryz.ntmps138
    go_wp2_with (go_at_call 94; refine (hX _ (f + 1) b _ gd (by go_num) (by omega) (by omega) (unhide ht)).mono ?_; rintro e w' ⟨rfl, rfl⟩; rw [unhide h1'])
    go_ret; exact ⟨rfl, rfl⟩
  · have e : cntP s (nmP P left) mm f = grt mm (bt s f) - few (bt s f) + 1 := by unfold cntP; rw [if_pos h1]
    have hg : few (bt s f) ≤ grt mm (bt s f) ∧ grt mm (bt s f) ≤ 5 ∧ few (bt s f) ≤ 1 := by unfold few grt; split <;> split <;> omega
    obtain ⟨hg1, hg2, hg3⟩ := hg
    rw [e]
    generalize hgG : grt mm (bt s f) = G at *
    generalize hgF : few (bt s f) = F at *
    have HG := hide hgG; have HF := hide hgF
    have h1' := hide h1; clear h1 e hgG hgF
    go_enter Tryz.func138, Tryz.ntmps138
    go_wp2_with (first | (go_at_call 94; refine (hX _ (f + 1) b _ gd (by go_num) (by omega) (by omega) (unhide ht)).mono ?_; rintro e w' ⟨rfl, rfl⟩; rw [unhide h1']) | (go_at_call 87; refine (at_any _ _ _ hs').mono ?_; rintro e w' ⟨rfl, rfl⟩) | (go_at_call 170; refine (greatest_any _ mm b _ gd).mono ?_; rintro e w' ⟨rfl, rfl⟩; rw [unhide HG]) | (go_at_call 93; refine (fewest_any _ _).mono ?_; rintro e w' ⟨rfl, rfl⟩; rw [unhide HF]))
    go_ret; exact ⟨ret_int (by omega), rfl⟩
end
end Go.Proofs.YtnfaiaoipeholaaGreatDoor
