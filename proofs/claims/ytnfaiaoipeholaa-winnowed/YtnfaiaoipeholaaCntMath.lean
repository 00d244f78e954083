/- An expression has at most ten alternatives. No Go here. -/
import Derived.Test.YtnfaiaoipeholaaLowMath
namespace Go.Proofs.Ytnfaiaoipeholaa

/-- the text goes on well; the numbers of alternatives so far, of each expression that is open, the innermost first -/
def goodN (s : ByteArray) : Nat → Nat → List Int → Prop
  | 0, _, _ => False
  | _ + 1, _, [] => False
  | n + 1, i, c :: r => c ≤ 10 ∧ ((cL (bt s i) || cN (bt s i)) = true ∧ goodN s n (i + 1) (c :: r) ∨ bt s i = 124 ∧ goodN s n (i + 1) ((c + 1) :: r) ∨
      cO (bt s i) = true ∧ goodN s n (i + 1) (1 :: c :: r) ∨ cX (bt s i) = true ∧ r ≠ [] ∧ goodN s n (i + 1) r ∨ bt s i = 59 ∧ r = [])
theorem goodN_good (s : ByteArray) : ∀ n i c r, goodN s n i (c :: r) → good s n i r.length
  | 0, i, c, r, h => h.elim
  | n + 1, i, c, r, h => by
    obtain ⟨_, h⟩ := h
    unfold good
    rcases h with ⟨h1, h2⟩ | ⟨h1, h2⟩ | ⟨h1, h2⟩ | ⟨h1, h2, h3⟩ | ⟨h1, h2⟩
    · exact .inl ⟨.inl h1, goodN_good s n _ _ _ h2⟩
    · exact .inl ⟨.inr h1, goodN_good s n _ _ _ h2⟩
    · exact .inr (.inl ⟨h1, goodN_good s n _ _ _ h2⟩)
    · cases r with
      | nil => exact absurd rfl h2
      | cons a r => exact .inr (.inr (.inl ⟨h1, r.length, rfl, goodN_good s n _ _ _ h3⟩))
    · exact .inr (.inr (.inr ⟨h1, by rw [h2]; rfl⟩))
theorem ap_step (s : ByteArray) {i j : Nat} (h : (fe s i).2 = (fe s j).2) (k : Nat) : ap s (k + 1) i = ap s (k + 1) j := by unfold ap; rw [h]
theorem goodN_ap (s : ByteArray) : ∀ n i c r, goodN s n i (c :: r) → (∀ k : Nat, 11 - c ≤ k → ap s k i = none) ∧ (r ≠ [] → ∃ m, m < n ∧ goodN s m (ee s i + 1) r) := by
  intro n
  induction n using Nat.strongRecOn with
  | _ n ih =>
  intro i c r h
  cases n with
  | zero => exact h.elim
  | succ n =>
  obtain ⟨hc10, h⟩ := h
  rcases h with ⟨hc, hg⟩ | ⟨hc, hg⟩ | ⟨hc, hg⟩ | ⟨hc, hr, hg⟩ | ⟨hc, hr⟩
  · have hlt : i < s.size := bt_lt (by intro e; rw [e] at hc; simp [cL, cN] at hc)
    have hf : isF s i = true := by simp [isF, hc]
    have hbh := bh_plain hlt hc
    have h2 : (fe s i).2 = (fe s (i + 1)).2 := by rw [fe_yes hf, hbh]
    obtain ⟨a1, a2⟩ := ih n (by omega) (i + 1) c r hg
    refine ⟨fun k hk => ?_, fun hr => ?_⟩
    · cases k with
      | zero => omega
      | succ k => rw [ap_step s h2]; exact a1 _ hk
    · rw [ee_fac hf, hbh]
      obtain ⟨m, hm, hh⟩ := a2 hr
      exact ⟨m, by omega, hh⟩
  · have hf : isF s i = false := by simp [isF, hc]; decide
    have h2 : (fe s i).2 = i := by rw [fe_no hf]
    obtain ⟨a1, a2⟩ := ih n (by omega) (i + 1) (c + 1) r hg
    refine ⟨fun k hk => ?_, fun hr => ?_⟩
    · cases k with
      | zero => omega
      | succ k =>
        unfold ap
        rw [h2, if_pos hc]
        exact a1 k (by omega)
    · have : ee s i = ee s (i + 1) := by rw [ee_bar (by rw [h2]; exact hc), h2]
      rw [this]
      obtain ⟨m, hm, hh⟩ := a2 hr
      exact ⟨m, by omega, hh⟩
  · have hf : isF s i = true := by simp [isF, hc]
    obtain ⟨_, a2⟩ := ih n (by omega) (i + 1) 1 (c :: r) hg
    obtain ⟨m, hm, hh⟩ := a2 (by simp)
    have hbh := bh_open (goodN_good s n _ _ _ hg) hc
    have h2 : (fe s i).2 = (fe s (ee s (i + 1) + 1)).2 := by rw [fe_yes hf, hbh]
    obtain ⟨b1, b2⟩ := ih m (by omega) (ee s (i + 1) + 1) c r hh
    refine ⟨fun k hk => ?_, fun hr => ?_⟩
    · cases k with
      | zero => omega
      | succ k => rw [ap_step s h2]; exact b1 _ hk
    · rw [ee_fac hf, hbh]
      obtain ⟨m2, hm2, hh2⟩ := b2 hr
      exact ⟨m2, by omega, hh2⟩
  · obtain ⟨n1, n2, n3, n4⟩ := close_not hc
    have hf : isF s i = false := by simp [isF, n1, n2, n3]
    have h2 : (fe s i).2 = i := by rw [fe_no hf]
    refine ⟨fun k hk => ?_, fun _ => ?_⟩
    · cases k with
      | zero => omega
      | succ k => unfold ap; rw [h2, if_neg n4]
    · have : ee s i = i := by rw [ee_end (by rw [h2]; exact n4), h2]
      rw [this]
      exact ⟨n, by omega, hg⟩
  · have hf : isF s i = false := by simp [isF, hc]; decide
    have h2 : (fe s i).2 = i := by rw [fe_no hf]
    refine ⟨fun k hk => ?_, fun h => absurd hr h⟩
    cases k with
    | zero => omega
    | succ k => unfold ap; rw [h2, if_neg (by omega)]
theorem sts_ten {s : ByteArray} {n i : Nat} {r : List Int} (h : goodN s n i (1 :: r)) : (sts s i).length ≤ 10 := by
  have := (goodN_ap s n i 1 r h).1 10 (by omega)
  rw [sts_ap] at this
  exact List.getElem?_eq_none_iff.1 this

/-- the machine's state, turned round -/
theorem goodN_of (s : ByteArray) : ∀ n k op r c, n = s.size - k → Inv 2 op (r ++ [c]) → (fmF s n k 2 op (r ++ [c])).1 = 0 → goodN s n k (c :: r.reverse)
  | 0, k, op, r, c, hn, hi, h => by
    exfalso; unfold fmF at h; rw [if_pos (by simp)] at h; simp at h
  | n + 1, k, op, r, c, hn, hi, h => by
    have hlt : k < s.size := by omega
    have hc10 : c ≤ 10 := (hi.2.2.2.2.2.2 c (by simp)).2
    have hlen := hi.2.2.2.2.2.1 rfl
    by_cases h0 : (mst (bt s k) 2 op (r ++ [c])).1 = 0
    case neg => exfalso; unfold fmF at h; rw [if_pos h0] at h; exact h0 h
    have hf : fmF s (n + 1) k 2 op (r ++ [c]) = fmF s n (k + 1) (mst (bt s k) 2 op (r ++ [c])).2.1 (mst (bt s k) 2 op (r ++ [c])).2.2.1 (mst (bt s k) 2 op (r ++ [c])).2.2.2 := by
      conv => lhs; unfold fmF
      rw [if_neg (by simp [h0])]
    rw [hf] at h
    have hi' := hi.step h0
    refine ⟨hc10, ?_⟩
    cases h1 : cO (bt s k)
    · cases h2 : cX (bt s k)
      · by_cases h3 : bt s k = 124
        · rw [h3, mst_bar] at h h0 hi'
          by_cases hd : 10 ≤ (r ++ [c]).getLastD 0
          · rw [if_pos hd] at h0; simp at h0
          · rw [if_neg hd] at h hi'
            have e1 : (r ++ [c]).dropLast ++ [(r ++ [c]).getLastD 0 + 1] = r ++ [c + 1] := by simp
            simp only [e1] at h hi'
            exact .inr (.inl ⟨h3, goodN_of s n (k + 1) _ _ _ (by omega) hi' h⟩)
        · by_cases h4 : bt s k = 59
          · rw [h4, mst_semi hi.2.2.2.2.1] at h0
            by_cases hn' : op = []
            · subst hn'
              have : r = [] := by
                simp at hlen; exact hlen
              exact .inr (.inr (.inr (.inr ⟨h4, by rw [this]; rfl⟩)))
            · rw [if_neg hn'] at h0; simp at h0
          · cases h5 : (cL (bt s k) || cN (bt s k))
            · rw [mst_bad hi.2.2.2.2.1 h1 h2 h3 h4 h5] at h0; simp at h0
            · rw [mst_plain h5] at h hi'
              exact .inl ⟨rfl, goodN_of s n (k + 1) _ _ _ (by omega) hi' h⟩
      · rw [mst_close h2] at h h0 hi'
        by_cases hd : op ≠ [] ∧ bt s k = op.getLastD 0
        · rw [if_pos hd] at h hi'
          have hl : 0 < op.length := List.length_pos_iff.2 hd.1
          have hr : r ≠ [] := by
            intro e; subst e; have h' : 1 = op.length + 1 := hlen; omega
          have e1 : (r ++ [c]).dropLast = r.dropLast ++ [r.getLast hr] := by rw [List.dropLast_concat_getLast hr]; simp
          have e2 : r.reverse = r.getLast hr :: r.dropLast.reverse := by
            conv => lhs; rw [← List.dropLast_concat_getLast hr]
            simp
          simp only [e1] at h hi'
          refine .inr (.inr (.inr (.inl ⟨rfl, by simpa using hr, ?_⟩)))
          rw [e2]
          exact goodN_of s n (k + 1) _ _ _ (by omega) hi' h
        · rw [if_neg hd] at h0; simp at h0
    · rw [mst_open h1] at h h0 hi'
      by_cases hd : 5 ≤ op.length
      · rw [if_pos hd] at h0; simp at h0
      · rw [if_neg hd] at h hi'
        have := goodN_of s n (k + 1) _ (r ++ [c]) 1 (by omega) hi' h
        exact .inr (.inr (.inl ⟨rfl, by simpa using this⟩))
theorem ten_of (s : ByteArray) : ∀ n k a op al, n = s.size - k → Inv a op al → (fmF s n k a op al).1 = 0 → ∀ f : Nat, k ≤ f → (cO (bt s f) = true ∨ bt s f = 61) → (sts s (f + 1)).length ≤ 10
  | 0, k, a, op, al, hn, hi, h, f, hf, hc => by
    have := bt_lt (s := s) (p := f) (by rcases hc with hc | hc
                                        · intro e; rw [e] at hc; revert hc; decide
                                        · omega)
    omega
  | n + 1, k, a, op, al, hn, hi, h, f, hf, hc => by
    by_cases h0 : (mst (bt s k) a op al).1 = 0
    case neg => exfalso; unfold fmF at h; rw [if_pos h0] at h; exact h0 h
    have hf' : fmF s (n + 1) k a op al = fmF s n (k + 1) (mst (bt s k) a op al).2.1 (mst (bt s k) a op al).2.2.1 (mst (bt s k) a op al).2.2.2 := by
      conv => lhs; unfold fmF
      rw [if_neg (by simp [h0])]
    rw [hf'] at h
    have hi' := hi.step h0
    by_cases e : f = k
    · subst e
      have ha : a = 0 ∨ a = 1 ∨ a = 2 := by have := hi.1; have := hi.2.1; omega
      rcases ha with rfl | rfl | rfl
      · rw [mst_name] at h0
        have hnc : cN (bt s f) = false := by
          rcases hc with hc | hc
          · have := cO_vals hc; simp [cN]; omega
          · rw [hc]; decide
        rw [hnc] at h0; simp at h0
      · rw [mst_eq] at h h0 hi'
        by_cases h61 : bt s f = 61
        · rw [if_pos h61] at h hi'
          exact sts_ten (goodN_of s n (f + 1) [] [] 1 (by omega) hi' h)
        · rw [if_neg h61] at h0; simp at h0
      · rcases hc with hc | hc
        · rw [mst_open hc] at h h0 hi'
          by_cases hd : 5 ≤ op.length
          · rw [if_pos hd] at h0; simp at h0
          · rw [if_neg hd] at h hi'
            exact sts_ten (goodN_of s n (f + 1) _ al 1 (by omega) hi' h)
        · rw [mst_bad hi.2.2.2.2.1 (by rw [hc]; decide) (by rw [hc]; decide) (by omega) (by omega) (by rw [hc]; decide)] at h0; simp at h0
    · exact ten_of s n (k + 1) _ _ _ (by omega) hi' h f (by omega) hc
/-- no expression has more than ten alternatives -/
structure Ten (s : ByteArray) : Prop where
  sub : ∀ f : Nat, cO (bt s f) = true → (sts s (f + 1)).length ≤ 10
  rule : ∀ j : Nat, j < s.size → begB s j = true → (sts s (j + 2)).length ≤ 10
theorem ten_chk {s : ByteArray} (h : (chk s).1 = 0) : Ten s := by
  have g := gram_of h
  unfold chk at h
  by_cases h1 : 300 < s.size
  · rw [if_pos h1] at h; simp at h
  rw [if_neg h1] at h
  by_cases h2 : (fmF s s.size 0 0 [] []).1 = 0
  case neg => rw [if_pos h2] at h; exact absurd h h2
  have ht := ten_of s s.size 0 0 [] [] (by omega) Inv.start h2
  exact ⟨fun f hf => ht f (by omega) (.inl hf), fun j hj hb => ht (j + 1) (by omega) (.inr (g.rule j hj hb).2.1)⟩
end Go.Proofs.Ytnfaiaoipeholaa
