/- Names are only names: two names for one another, the form and the faults. No Go here. -/
import Derived.Test.YtpkblanmeokdgaaMath
namespace Go.Proofs.Ytpkblanmeokdgaa
/-- the one name for the other -/
def sw (a b c : Int) : Int := if c = a then b else if c = b then a else c
/-- two names -/
structure NN (a b : Int) : Prop where
  ha : 65 ≤ a ∧ a ≤ 90
  hb : 65 ≤ b ∧ b ≤ 90
/-- a text with two names for one another -/
structure Sw (a b : Int) (s s' : ByteArray) : Prop where
  nn : NN a b
  sz : s'.size = s.size
  at_ : ∀ i : Int, bt s' i = sw a b (bt s i)
section
variable {a b : Int}
theorem sw_sw (a b c : Int) : sw a b (sw a b c) = c := by
  unfold sw
  by_cases h1 : c = a
  · rw [if_pos h1]
    by_cases h2 : b = a
    · rw [if_pos h2]; omega
    · rw [if_neg h2, if_pos rfl]; omega
  · rw [if_neg h1]
    by_cases h2 : c = b
    · rw [if_pos h2, if_pos rfl]; omega
    · rw [if_neg h2, if_neg h1, if_neg h2]
theorem sw_inj {c d : Int} : sw a b c = sw a b d ↔ c = d := ⟨fun e => by have := congrArg (sw a b) e; rwa [sw_sw, sw_sw] at this, fun e => by rw [e]⟩
theorem sw_cases (a b c : Int) : (sw a b c = b ∧ c = a) ∨ (sw a b c = a ∧ c = b) ∨ sw a b c = c := by
  unfold sw
  by_cases h1 : c = a
  · rw [if_pos h1]; exact .inl ⟨rfl, h1⟩
  · rw [if_neg h1]
    by_cases h2 : c = b
    · rw [if_pos h2]; exact .inr (.inl ⟨rfl, h2⟩)
    · rw [if_neg h2]; exact .inr (.inr rfl)
theorem sw_cN (n : NN a b) (c : Int) : cN (sw a b c) = cN c := by
  obtain ⟨h1, h2⟩ := n
  rcases sw_cases a b c with ⟨e, f⟩ | ⟨e, f⟩ | e <;> rw [e]
  all_goals (try subst f)
  all_goals simp [cN]
  all_goals (simp [h1, h2])
theorem sw_of (c : Int) (h : cN c = false) (n : NN a b) : sw a b c = c := by
  obtain ⟨h1, h2⟩ := n
  rcases sw_cases a b c with ⟨e, f⟩ | ⟨e, f⟩ | e
  · subst f; simp [cN] at h; omega
  · subst f; simp [cN] at h; omega
  · exact e
theorem sw_eq (n : NN a b) (c : Int) {k : Int} (hk : cN k = false) : sw a b c = k ↔ c = k := by
  rw [← sw_of k hk n, sw_inj, sw_of k hk n]
theorem sw_beq (n : NN a b) (c : Int) {k : Int} (hk : cN k = false) : (sw a b c == k) = (c == k) := by
  rw [Bool.eq_iff_iff]; simp only [beq_iff_eq]; exact sw_eq n c hk
theorem sw_not (n : NN a b) (c : Int) : sw a b c = c ∨ cN c = true ∧ cN (sw a b c) = true := by
  cases h : cN c
  · exact .inl (sw_of c h n)
  · exact .inr ⟨rfl, by rw [sw_cN n, h]⟩
theorem cN_cL {c : Int} (h : cN c = true) : cL c = false := by simp [cN] at h; simp [cL]; omega
theorem cN_cD {c : Int} (h : cN c = true) : cD c = false := by simp [cN] at h; simp [cD]; omega
theorem cN_cC {c : Int} (h : cN c = true) : cC c = 0 := by
  simp [cN] at h; unfold cC
  rw [if_neg (by omega), if_neg (by omega), if_neg (by omega), if_neg (by omega)]
theorem cN_cX {c : Int} (h : cN c = true) : cX c = false := by simp [cN] at h; simp [cX]; omega
theorem sw_cL (n : NN a b) (c : Int) : cL (sw a b c) = cL c := by
  rcases sw_not n c with e | ⟨e, f⟩
  · rw [e]
  · rw [cN_cL e, cN_cL f]
theorem sw_cD (n : NN a b) (c : Int) : cD (sw a b c) = cD c := by
  rcases sw_not n c with e | ⟨e, f⟩
  · rw [e]
  · rw [cN_cD e, cN_cD f]
theorem sw_cC (n : NN a b) (c : Int) : cC (sw a b c) = cC c := by
  rcases sw_not n c with e | ⟨e, f⟩
  · rw [e]
  · rw [cN_cC e, cN_cC f]
theorem sw_cX (n : NN a b) (c : Int) : cX (sw a b c) = cX c := by
  rcases sw_not n c with e | ⟨e, f⟩
  · rw [e]
  · rw [cN_cX e, cN_cX f]
theorem sw_cO (n : NN a b) (c : Int) : cO (sw a b c) = cO c := by unfold cO; rw [sw_cC n]
theorem sw_stp (n : NN a b) (c : Int) (op al : List Int) : stp (sw a b c) op al = stp c op al := by
  rcases sw_not n c with e | ⟨e, f⟩
  · rw [e]
  · unfold stp
    rw [if_pos (by rw [f, Bool.or_true]), if_pos (by rw [e, Bool.or_true])]
theorem sw_mst (n : NN a b) (c x : Int) (op al : List Int) : mst (sw a b c) x op al = mst c x op al := by
  unfold mst
  rw [sw_cN n, sw_stp n c op al]
  simp only [sw_eq n c (k := 61) rfl, sw_eq n c (k := 59) rfl]
section
variable {s s' : ByteArray}
theorem Sw.eq (h : Sw a b s s') (i : Int) {k : Int} (hk : cN k = false) : bt s' i = k ↔ bt s i = k := by rw [h.at_, sw_eq h.nn _ hk]
theorem Sw.beq (h : Sw a b s s') (i : Int) {k : Int} (hk : cN k = false) : (bt s' i == k) = (bt s i == k) := by rw [h.at_, sw_beq h.nn _ hk]
theorem Sw.begB_ (h : Sw a b s s') (i : Int) : begB s' i = begB s i := by unfold begB; rw [h.beq (i - 1) (k := 59) rfl]
theorem Sw.rlF_ (h : Sw a b s s') (c : Int) : ∀ n i, rlF s' (sw a b c) n i = rlF s c n i
  | 0, i => rfl
  | n + 1, i => by
    unfold rlF
    have e : (bt s' i == sw a b c) = (bt s i == c) := by rw [h.at_, Bool.eq_iff_iff]; simp only [beq_iff_eq]; exact sw_inj
    rw [h.begB_, e, h.rlF_ c n (i + 1)]
theorem Sw.rl_ (h : Sw a b s s') (c : Int) : rl s' (sw a b c) = rl s c := by unfold rl; rw [h.sz, h.rlF_]
theorem Sw.rlb (h : Sw a b s s') (i : Int) : rl s' (bt s' i) = rl s (bt s i) := by rw [h.at_, h.rl_]
theorem Sw.twF_ (h : Sw a b s s') : ∀ n i, twF s' n i = twF s n i
  | 0, i => rfl
  | n + 1, i => by unfold twF; rw [h.begB_, h.rlb, h.twF_ n (i + 1)]
theorem Sw.nmF_ (h : Sw a b s s') : ∀ n i, nmF s' n i = nmF s n i
  | 0, i => rfl
  | n + 1, i => by unfold nmF; rw [h.rlb, h.nmF_ n (i + 1), h.at_, sw_cN h.nn]
theorem Sw.fmF_ (h : Sw a b s s') : ∀ n i x op al, fmF s' n i x op al = fmF s n i x op al
  | 0, i, x, op, al => by unfold fmF; rw [h.sz]
  | n + 1, i, x, op, al => by
    unfold fmF
    rw [h.at_, sw_mst h.nn _ _ _ _, h.fmF_ n (i + 1)]
theorem Sw.chk_ (h : Sw a b s s') : chk s' = chk s := by unfold chk; rw [h.sz, h.fmF_, h.twF_, h.nmF_]
theorem Sw.symm (h : Sw a b s s') : Sw a b s' s := ⟨h.nn, h.sz.symm, fun i => by rw [h.at_, sw_sw]⟩
end
end
end Go.Proofs.Ytpkblanmeokdgaa
