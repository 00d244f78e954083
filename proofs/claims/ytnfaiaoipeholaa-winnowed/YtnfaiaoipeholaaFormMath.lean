/- The machine of a grammar's form, case by case; lists by their places. No Go here. -/
import Derived.Test.YtnfaiaoipeholaaMath
namespace Go.Proofs.Ytnfaiaoipeholaa
theorem cO_vals {c : Int} (h : cO c = true) : c = 40 ∨ c = 91 ∨ c = 123 ∨ c = 60 := by
  unfold cO cC at h; simp at h
  by_cases h1 : c = 40
  · exact .inl h1
  by_cases h2 : c = 91
  · exact .inr (.inl h2)
  by_cases h3 : c = 123
  · exact .inr (.inr (.inl h3))
  by_cases h4 : c = 60
  · exact .inr (.inr (.inr h4))
  · simp [h1, h2, h3, h4] at h
theorem cX_vals {c : Int} (h : cX c = true) : c = 41 ∨ c = 93 ∨ c = 125 ∨ c = 62 := by
  unfold cX at h; simp at h; omega
theorem last_at (l : List Int) : l.getLastD 0 = l.getD (l.length - 1) 0 := by
  rw [List.getLastD_eq_getLast?, List.getLast?_eq_getElem?, List.getD_eq_getElem?_getD]
section
variable {c : Int} {op al : List Int}
theorem mst_open (h : cO c = true) : mst c 2 op al = if 5 ≤ op.length then (4, 2, op, al) else (0, 2, op ++ [cC c], al ++ [1]) := by
  rcases cO_vals h with rfl | rfl | rfl | rfl <;> (simp [mst, stp, cL, cN, cC]; split <;> rfl)
theorem mst_close (h : cX c = true) : mst c 2 op al = if op ≠ [] ∧ c = op.getLastD 0 then (0, 2, op.dropLast, al.dropLast) else (2, 2, op, al) := by
  rcases cX_vals h with rfl | rfl | rfl | rfl <;> (simp [mst, stp, cL, cN, cC]; split <;> rfl)
theorem mst_bar : mst 124 2 op al = if 10 ≤ al.getLastD 0 then (3, 2, op, al) else (0, 2, op, al.dropLast ++ [al.getLastD 0 + 1]) := by
  simp [mst, stp, cL, cN, cC]; split <;> rfl
theorem last_cX (h : ∀ x ∈ op, cX x = true) (hn : op ≠ []) : cX (op.getLastD 0) = true := by
  apply h; rw [List.getLastD_eq_getLast?, List.getLast?_eq_some_getLast hn]; simp
theorem mst_semi (h : ∀ x ∈ op, cX x = true) : mst 59 2 op al = if op = [] then (0, 0, op, al) else (2, 2, op, al) := by
  by_cases hn : op = []
  · simp [mst, hn]
  · have := last_cX h hn
    have hne : ¬ (59 = op.getLastD 0) := by intro e; rw [← e] at this; simp [cX] at this
    rw [if_neg hn]
    unfold mst stp
    rw [if_neg (by omega), if_neg (by omega), if_neg (by simp [hn]), if_neg (by simp [cL, cN]), if_neg (by simp [cC]), if_neg (by omega), if_neg (fun e => hne e.2)]
theorem mst_plain (h : (cL c || cN c) = true) : mst c 2 op al = (0, 2, op, al) := by
  have h59 : c ≠ 59 := by intro e; rw [e] at h; simp [cL, cN] at h
  unfold mst stp
  rw [if_neg (by omega), if_neg (by omega), if_neg (by simp [h59]), if_pos h]
theorem mst_bad (h : ∀ x ∈ op, cX x = true) (h1 : cO c = false) (h2 : cX c = false) (h3 : c ≠ 124) (h4 : c ≠ 59) (h5 : (cL c || cN c) = false) : mst c 2 op al = (2, 2, op, al) := by
  unfold mst stp
  rw [if_neg (by omega), if_neg (by omega), if_neg (by simp [h4]), if_neg (by simp [h5]), if_neg (by simpa [cO] using h1), if_neg h3, if_neg]
  rintro ⟨hn, e⟩
  have := last_cX h hn
  rw [← e, h2] at this; simp at this
theorem mst_name : mst c 0 op al = if cN c = true then (0, 1, op, al) else (2, 0, op, al) := by simp [mst]
theorem mst_eq : mst c 1 op al = if c = 61 then (0, 2, [], [1]) else (2, 1, op, al) := by simp [mst]
end
theorem getD_push (l : List Int) (x : Int) (j : Nat) (h : j < l.length) : (l ++ [x]).getD j 0 = l.getD j 0 := by
  simp [List.getElem?_append_left h]
theorem getD_pushed (l : List Int) (x : Int) : (l ++ [x]).getD l.length 0 = x := by simp
theorem getD_drop (l : List Int) (j : Nat) (h : j < l.length - 1) : l.dropLast.getD j 0 = l.getD j 0 := by
  rw [List.getD_eq_getElem?_getD, List.getD_eq_getElem?_getD, List.getElem?_dropLast, if_pos h]
theorem fmF_bad {s : ByteArray} {a : Int} {op al : List Int} {k : Nat} (h : k < s.size) (h1 : (mst (bt s k) a op al).1 ≠ 0) : fmF s (s.size - k) k a op al = ((mst (bt s k) a op al).1, (k : Int)) := by
  obtain ⟨n, hn⟩ : ∃ n, s.size - k = n + 1 := ⟨s.size - k - 1, by omega⟩
  rw [hn]; simp only [fmF]; rw [if_pos h1]
theorem fmF_good {s : ByteArray} {a : Int} {op al : List Int} {k : Nat} (h : k < s.size) (h1 : (mst (bt s k) a op al).1 = 0) : fmF s (s.size - k) k a op al = fmF s (s.size - (k + 1)) (k + 1) (mst (bt s k) a op al).2.1 (mst (bt s k) a op al).2.2.1 (mst (bt s k) a op al).2.2.2 := by
  obtain ⟨n, hn⟩ : ∃ n, s.size - k = n + 1 := ⟨s.size - k - 1, by omega⟩
  rw [hn, show s.size - (k + 1) = n by omega]
  conv => lhs; unfold fmF
  rw [if_neg (by simp [h1])]
theorem fmF_end {s : ByteArray} {a : Int} {op al : List Int} {k : Nat} (h : ¬ k < s.size) : fmF s (s.size - k) k a op al = if a ≠ 0 ∨ s.size = 0 then (2, (s.size : Int)) else (0, 0) := by
  rw [show s.size - k = 0 by omega]; rfl
theorem mst_errs (c a : Int) (op al : List Int) : 0 ≤ (mst c a op al).1 ∧ (mst c a op al).1 ≤ 4 := by
  unfold mst stp; repeat' split
  all_goals simp
end Go.Proofs.Ytnfaiaoipeholaa
