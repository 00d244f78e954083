/- What a grammar without a fault has: rules that go on well, names that have one rule. No Go here. -/
import Derived.Test.YtnfaiaoipeholaaTreeMath
namespace Go.Proofs.Ytnfaiaoipeholaa

theorem good_of (s : ByteArray) : ∀ n k op al, n = s.size - k → Inv 2 op al → (fmF s n k 2 op al).1 = 0 → good s n k op.length
  | 0, k, op, al, hn, hi, h => by
    exfalso; unfold fmF at h; rw [if_pos (by simp)] at h; simp at h
  | n + 1, k, op, al, hn, hi, h => by
    have hlt : k < s.size := by omega
    by_cases h0 : (mst (bt s k) 2 op al).1 = 0
    case neg => exfalso; unfold fmF at h; rw [if_pos h0] at h; exact h0 h
    have hf : fmF s (n + 1) k 2 op al = fmF s n (k + 1) (mst (bt s k) 2 op al).2.1 (mst (bt s k) 2 op al).2.2.1 (mst (bt s k) 2 op al).2.2.2 := by
      conv => lhs; unfold fmF
      rw [if_neg (by simp [h0])]
    rw [hf] at h
    have hi' := hi.step h0
    unfold good
    cases h1 : cO (bt s k)
    · cases h2 : cX (bt s k)
      · by_cases h3 : bt s k = 124
        · rw [h3, mst_bar] at h h0 hi'
          by_cases hd : 10 ≤ al.getLastD 0
          · rw [if_pos hd] at h0; simp at h0
          · rw [if_neg hd] at h hi'
            exact .inl ⟨.inr h3, good_of s n (k + 1) _ _ (by omega) hi' h⟩
        · by_cases h4 : bt s k = 59
          · rw [h4, mst_semi hi.2.2.2.2.1] at h0
            by_cases hn' : op = []
            · exact .inr (.inr (.inr ⟨h4, by rw [hn']; rfl⟩))
            · rw [if_neg hn'] at h0; simp at h0
          · cases h5 : (cL (bt s k) || cN (bt s k))
            · rw [mst_bad hi.2.2.2.2.1 h1 h2 h3 h4 h5] at h0; simp at h0
            · rw [mst_plain h5] at h hi'
              exact .inl ⟨.inl rfl, good_of s n (k + 1) _ _ (by omega) hi' h⟩
      · rw [mst_close h2] at h h0 hi'
        by_cases hd : op ≠ [] ∧ bt s k = op.getLastD 0
        · rw [if_pos hd] at h hi'
          have hl : 0 < op.length := List.length_pos_iff.2 hd.1
          have := good_of s n (k + 1) _ _ (by omega) hi' h
          refine .inr (.inr (.inl ⟨rfl, op.length - 1, by omega, ?_⟩))
          simpa using this
        · rw [if_neg hd] at h0; simp at h0
    · rw [mst_open h1] at h h0 hi'
      by_cases hd : 5 ≤ op.length
      · rw [if_pos hd] at h0; simp at h0
      · rw [if_neg hd] at h hi'
        have := good_of s n (k + 1) _ _ (by omega) hi' h
        exact .inr (.inl ⟨rfl, by simpa using this⟩)

/-- what stands at a rule's beginning -/
def RuleAt (s : ByteArray) (j : Nat) : Prop := cN (bt s j) = true ∧ bt s (j + 1 : Nat) = 61 ∧ j + 2 ≤ s.size ∧ ∃ n, good s n (j + 2) 0

theorem rules_of (s : ByteArray) : ∀ n k a op al, n = s.size - k → Inv a op al → (fmF s n k a op al).1 = 0 →
    ∀ j, k ≤ j → j < s.size → (j = k → a = 0) → (k < j → bt s (j - 1 : Nat) = 59) → RuleAt s j
  | 0, k, a, op, al, hn, hi, h, j, h1, h2, _, _ => by omega
  | n + 1, k, a, op, al, hn, hi, h, j, hj1, hj2, hj3, hj4 => by
    by_cases h0 : (mst (bt s k) a op al).1 = 0
    case neg => exfalso; unfold fmF at h; rw [if_pos h0] at h; exact h0 h
    have hf : fmF s (n + 1) k a op al = fmF s n (k + 1) (mst (bt s k) a op al).2.1 (mst (bt s k) a op al).2.2.1 (mst (bt s k) a op al).2.2.2 := by
      conv => lhs; unfold fmF
      rw [if_neg (by simp [h0])]
    rw [hf] at h
    have hi' := hi.step h0
    by_cases e : j = k
    · subst e
      have ha := hj3 rfl
      subst ha
      rw [mst_name] at h h0 hi'
      by_cases hc : cN (bt s j) = true
      case neg => rw [if_neg hc] at h0; simp at h0
      rw [if_pos hc] at h hi'
      simp only at h hi'
      cases n with
      | zero => exfalso; unfold fmF at h; rw [if_pos (by simp)] at h; simp at h
      | succ n =>
        by_cases h1 : (mst (bt s (j + 1 : Nat)) 1 op al).1 = 0
        case neg => exfalso; unfold fmF at h; rw [if_pos h1] at h; exact h1 h
        have hf1 : fmF s (n + 1) (j + 1) 1 op al = fmF s n (j + 1 + 1) (mst (bt s (j + 1 : Nat)) 1 op al).2.1 (mst (bt s (j + 1 : Nat)) 1 op al).2.2.1 (mst (bt s (j + 1 : Nat)) 1 op al).2.2.2 := by
          conv => lhs; unfold fmF
          rw [if_neg (fun e => e h1)]
        rw [hf1] at h
        have hi2 := hi'.step h1
        rw [mst_eq] at h h1 hi2
        by_cases hc1 : bt s (j + 1 : Nat) = 61
        case neg => rw [if_neg hc1] at h1; simp at h1
        rw [if_pos hc1] at h hi2
        exact ⟨hc, hc1, by omega, n, good_of s n (j + 1 + 1) [] [1] (by omega) hi2 h⟩
    · have hlt : k < j := by omega
      have h59 := hj4 hlt
      refine rules_of s n (k + 1) _ _ _ (by omega) hi' h j (by omega) hj2 (fun e1 => ?_) (fun _ => h59)
      have hk : bt s k = 59 := by rw [show k = j - 1 by omega]; exact h59
      rw [hk] at h0 ⊢
      have hcn : cN 59 = false := by decide
      unfold mst at h0 ⊢
      by_cases ha0 : a = 0
      · rw [if_pos ha0, if_neg (by simp [hcn])] at h0; simp at h0
      · rw [if_neg ha0] at h0 ⊢
        by_cases ha1 : a = 1
        · rw [if_pos ha1, if_neg (by omega)] at h0; simp at h0
        · rw [if_neg ha1] at h0 ⊢
          by_cases hop : op = []
          · rw [if_pos ⟨rfl, hop⟩]
          · exfalso
            have ha2 : a = 2 := by have := hi.1; have := hi.2.1; omega
            subst ha2
            have := mst_semi (op := op) (al := al) hi.2.2.2.2.1
            rw [if_neg hop] at this
            unfold mst at this
            rw [if_neg (by omega), if_neg (by omega)] at this
            rw [this] at h0; simp at h0

theorem twF_all (s : ByteArray) : ∀ n i, (twF s n i).1 = 0 → ∀ j, i ≤ j → j < i + n → begB s j = true → rl s (bt s j) = j
  | 0, i, h, j, h1, h2, _ => by omega
  | n + 1, i, h, j, h1, h2, hb => by
    unfold twF at h
    by_cases hc : (begB s i && rl s (bt s i) != i) = true
    · rw [if_pos hc] at h; simp at h
    · rw [if_neg hc] at h
      by_cases e : j = i
      · subst e; simpa [hb] using hc
      · exact twF_all s n (i + 1) h j (by omega) (by omega) hb
theorem nmF_all (s : ByteArray) : ∀ n i, (nmF s n i).1 = 0 → ∀ j, i ≤ j → j < i + n → cN (bt s j) = true → rl s (bt s j) ≠ -1
  | 0, i, h, j, h1, h2, _ => by omega
  | n + 1, i, h, j, h1, h2, hb => by
    unfold nmF at h
    by_cases hc : (cN (bt s i) && rl s (bt s i) == -1) = true
    · rw [if_pos hc] at h; simp at h
    · rw [if_neg hc] at h
      by_cases e : j = i
      · subst e; simpa [hb] using hc
      · exact nmF_all s n (i + 1) h j (by omega) (by omega) hb
theorem rlF_spec (s : ByteArray) (c : Int) : ∀ n i j : Nat, rlF s c n i = (j : Int) → begB s j = true ∧ bt s j = c
  | 0, i, j, h => by simp only [rlF] at h; omega
  | n + 1, i, j, h => by
    unfold rlF at h
    by_cases hc : (begB s i && bt s i == c) = true
    · rw [if_pos hc] at h
      have : i = j := by omega
      subst this; simpa using hc
    · rw [if_neg hc] at h; exact rlF_spec s c n (i + 1) j h

/-- a grammar without a fault -/
structure Gram (s : ByteArray) : Prop where
  small : s.size ≤ 300
  pos : 0 < s.size
  rule : ∀ j, j < s.size → begB s j = true → RuleAt s j
  once : ∀ j, j < s.size → begB s j = true → rl s (bt s j) = j
  name : ∀ f : Nat, cN (bt s f) = true → ∃ j : Nat, rl s (bt s f) = (j : Int) ∧ j < s.size ∧ begB s j = true ∧ bt s j = bt s f

theorem gram_of {s : ByteArray} (h : (chk s).1 = 0) : Gram s := by
  unfold chk at h
  by_cases h1 : 300 < s.size
  · rw [if_pos h1] at h; simp at h
  rw [if_neg h1] at h
  by_cases h2 : (fmF s s.size 0 0 [] []).1 = 0
  case neg => rw [if_pos h2] at h; exact absurd h h2
  rw [if_neg (by simp [h2])] at h
  by_cases h3 : (twF s s.size 0).1 = 0
  case neg => rw [if_pos h3] at h; exact absurd h h3
  rw [if_neg (by simp [h3])] at h
  have hpos : 0 < s.size := by
    by_cases hp : 0 < s.size
    · exact hp
    · have h0 : s.size = 0 := by omega
      rw [h0] at h2; unfold fmF at h2; rw [if_pos (.inr h0)] at h2; simp at h2
  refine ⟨by omega, hpos, fun j hj hb => ?_, fun j hj hb => twF_all s _ 0 h3 j (by omega) (by omega) hb, fun f hf => ?_⟩
  · refine rules_of s s.size 0 0 [] [] (by omega) Inv.start h2 j (by omega) hj (fun _ => rfl) (fun hp => ?_)
    unfold begB at hb
    rw [beq_eq_false_iff_ne.2 (by omega), show (j : Int) - 1 = ((j - 1 : Nat) : Int) by omega] at hb
    simpa using hb
  · have hlt : f < s.size := bt_lt (by intro e; rw [e] at hf; revert hf; decide)
    have := nmF_all s _ 0 h f (by omega) (by omega) hf
    have hb := rl_bd s (bt s f)
    obtain ⟨j, hj⟩ : ∃ j : Nat, rl s (bt s f) = (j : Int) := ⟨(rl s (bt s f)).toNat, by omega⟩
    have := rlF_spec s (bt s f) s.size 0 j hj
    exact ⟨j, hj, by omega, this.1, this.2⟩
end Go.Proofs.Ytnfaiaoipeholaa
