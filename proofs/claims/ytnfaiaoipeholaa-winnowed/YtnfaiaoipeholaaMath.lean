/- Plain functions on bytes: what the document calls a letter, a name, a bracket. No Go here. -/
import Derived.WalkKit
namespace Go.Proofs.Ytnfaiaoipeholaa
/-- a letter -/
def cL (c : Int) : Bool := decide (97 ≤ c) && decide (c ≤ 122)
/-- a name -/
def cN (c : Int) : Bool := decide (65 ≤ c) && decide (c ≤ 90)
/-- a digit -/
def cD (c : Int) : Bool := decide (48 ≤ c) && decide (c ≤ 57)
/-- what closes a bracket; 0: it opens nothing -/
def cC (c : Int) : Int := if c = 40 then 41 else if c = 91 then 93 else if c = 123 then 125 else if c = 60 then 62 else 0
/-- it opens -/
def cO (c : Int) : Bool := cC c != 0
/-- it closes -/
def cX (c : Int) : Bool := c == 41 || c == 93 || c == 125 || c == 62
/-- the byte at a place; 0: there is none -/
def bt (s : ByteArray) (p : Int) : Int := if h : 0 ≤ p ∧ p < s.size then ((s[p.toNat]'(by omega)).toNat : Int) else 0
theorem bt_at (s : ByteArray) (k : Nat) (h : k < s.size) : bt s k = (s[k].toNat : Int) := by
  unfold bt; rw [dif_pos ⟨by omega, by omega⟩]; simp
theorem bt_eq (s : ByteArray) (p : Int) (k : Nat) (e : p = k) (h : k < s.size) : bt s p = (s[k].toNat : Int) := by subst e; exact bt_at s k h
theorem bt_out (s : ByteArray) (p : Int) (h : p < 0 ∨ s.size ≤ p) : bt s p = 0 := by
  unfold bt; rw [dif_neg (by omega)]
theorem bt_bd (s : ByteArray) (p : Int) : 0 ≤ bt s p ∧ bt s p ≤ 255 := by
  unfold bt; split
  · have := (s[p.toNat]'(by omega)).toNat_lt; omega
  · omega
theorem cC_vals (c : Int) : cC c = 41 ∨ cC c = 93 ∨ cC c = 125 ∨ cC c = 62 ∨ cC c = 0 := by
  unfold cC; repeat' split
  all_goals simp
theorem cC_bd (c : Int) : 0 ≤ cC c ∧ cC c ≤ 255 := by rcases cC_vals c with h | h | h | h | h <;> omega

/-- does a rule begin at this place? -/
def begB (s : ByteArray) (i : Int) : Bool := i == 0 || bt s (i - 1) == 59
/-- where the first rule of the name begins, from a place on -/
def rlF (s : ByteArray) (c : Int) : Nat → Nat → Int
  | 0, _ => -1
  | n + 1, i => if begB s i && bt s i == c then (i : Int) else rlF s c n (i + 1)
def rl (s : ByteArray) (c : Int) : Int := rlF s c s.size 0
theorem rlF_bd (s : ByteArray) (c : Int) : ∀ n i, -1 ≤ rlF s c n i ∧ rlF s c n i < i + n + 1 ∧ (rlF s c n i = -1 ∨ i ≤ rlF s c n i ∧ rlF s c n i < i + n)
  | 0, i => by simp [rlF]; omega
  | n + 1, i => by
    unfold rlF; split
    · omega
    · have := rlF_bd s c n (i + 1); omega
theorem rl_bd (s : ByteArray) (c : Int) : -1 ≤ rl s c ∧ rl s c ≤ s.size ∧ (rl s c = -1 ∨ 0 ≤ rl s c ∧ rl s c < s.size) := by
  have := rlF_bd s c s.size 0; unfold rl; omega
/-- the first name that begins a rule a second time, from a place on -/
def twF (s : ByteArray) : Nat → Nat → Int × Int
  | 0, _ => (0, 0)
  | n + 1, i => if begB s i && rl s (bt s i) != i then (5, (i : Int)) else twF s n (i + 1)
/-- the first name that has no rule, from a place on -/
def nmF (s : ByteArray) : Nat → Nat → Int × Int
  | 0, _ => (0, 0)
  | n + 1, i => if cN (bt s i) && rl s (bt s i) == -1 then (6, (i : Int)) else nmF s n (i + 1)

/-- a byte within an expression: the brackets that are to close, the alternatives of each open expression; the outermost first -/
def stp (c : Int) (op al : List Int) : Int × List Int × List Int :=
  if (cL c || cN c) = true then (0, op, al)
  else if cC c ≠ 0 then (if 5 ≤ op.length then (4, op, al) else (0, op ++ [cC c], al ++ [1]))
  else if c = 124 then (if 10 ≤ al.getLastD 0 then (3, op, al) else (0, op, al.dropLast ++ [al.getLastD 0 + 1]))
  else if op ≠ [] ∧ c = op.getLastD 0 then (0, op.dropLast, al.dropLast)
  else (2, op, al)
/-- a byte of a grammar: 0: a rule's name comes next, 1: its '=', 2: its expression -/
def mst (c : Int) (a : Int) (op al : List Int) : Int × Int × List Int × List Int :=
  if a = 0 then (if cN c then (0, 1, op, al) else (2, a, op, al))
  else if a = 1 then (if c = 61 then (0, 2, [], [1]) else (2, a, op, al))
  else if c = 59 ∧ op = [] then (0, 0, op, al)
  else ((stp c op al).1, 2, (stp c op al).2)
/-- the first fault of a grammar's form, from a place on -/
def fmF (s : ByteArray) : Nat → Nat → Int → List Int → List Int → Int × Int
  | 0, _, a, _, _ => if a ≠ 0 ∨ s.size = 0 then (2, (s.size : Int)) else (0, 0)
  | n + 1, i, a, op, al =>
    if (mst (bt s i) a op al).1 ≠ 0 then ((mst (bt s i) a op al).1, (i : Int))
    else fmF s n (i + 1) (mst (bt s i) a op al).2.1 (mst (bt s i) a op al).2.2.1 (mst (bt s i) a op al).2.2.2
/-- P3 -/
def chk (s : ByteArray) : Int × Int :=
  if 300 < s.size then (1, 0)
  else if (fmF s s.size 0 0 [] []).1 ≠ 0 then fmF s s.size 0 0 [] []
  else if (twF s s.size 0).1 ≠ 0 then twF s s.size 0
  else nmF s s.size 0
/-- what is always so of the state -/
def Inv (a : Int) (op al : List Int) : Prop :=
  0 ≤ a ∧ a ≤ 2 ∧ (a ≠ 2 → op = []) ∧ op.length ≤ 5 ∧ (∀ x ∈ op, cX x = true) ∧ (a = 2 → al.length = op.length + 1) ∧ (∀ x ∈ al, 1 ≤ x ∧ x ≤ 10)
theorem Inv.start : Inv 0 [] [] := by simp [Inv]
theorem cX_cC (c : Int) (h : cC c ≠ 0) : cX (cC c) = true := by
  rcases cC_vals c with h1 | h1 | h1 | h1 | h1 <;> simp_all [cX]
theorem Inv.step {c a : Int} {op al : List Int} (h : Inv a op al) (h0 : (mst c a op al).1 = 0) : Inv (mst c a op al).2.1 (mst c a op al).2.2.1 (mst c a op al).2.2.2 := by
  obtain ⟨h1, h2, h3, h4, h5, h6, h7⟩ := h
  unfold mst at h0 ⊢
  split at h0
  · rename_i ha
    split at h0
    · rename_i hc; simp only [ha, hc, if_true]; refine ⟨by simp, by simp, by intro _; exact h3 (by omega), h4, h5, by simp, h7⟩
    · simp at h0
  rename_i ha
  rw [if_neg ha] at *
  split at h0
  · rename_i hb
    rw [if_pos hb] at *
    split at h0
    · rename_i hc; rw [if_pos hc]; simp [Inv]
    · simp at h0
  rename_i hb
  rw [if_neg hb] at *
  have ha2 : a = 2 := by omega
  split at h0
  · rename_i hc
    rw [if_pos hc]; refine ⟨by simp, by simp, by intro _; exact hc.2, h4, h5, by simp, h7⟩
  rename_i hc
  rw [if_neg hc]
  have hal := h6 ha2
  show Inv 2 (stp c op al).2.1 (stp c op al).2.2
  have h0' : (stp c op al).1 = 0 := h0
  clear h0
  unfold stp at h0' ⊢
  split at h0'
  · rename_i hd; rw [if_pos hd]; exact ⟨by simp, by simp, by simp, h4, h5, fun _ => hal, h7⟩
  rename_i hd
  rw [if_neg hd]
  split at h0'
  · rename_i he
    rw [if_pos he]
    split at h0'
    · simp at h0'
    · rename_i hf; rw [if_neg hf]
      refine ⟨by simp, by simp, by simp, by simp; omega, ?_, by simp; omega, ?_⟩
      · intro x hx; rcases List.mem_append.1 hx with hx | hx
        · exact h5 x hx
        · simp at hx; subst hx; exact cX_cC c he
      · intro x hx; rcases List.mem_append.1 hx with hx | hx
        · exact h7 x hx
        · simp at hx; omega
  rename_i he
  rw [if_neg he]
  split at h0'
  · rename_i hf
    rw [if_pos hf]
    split at h0'
    · simp at h0'
    · rename_i hg; rw [if_neg hg]
      refine ⟨by simp, by simp, by simp, h4, h5, by simp; omega, ?_⟩
      intro x hx; rcases List.mem_append.1 hx with hx | hx
      · exact h7 x (List.dropLast_subset _ hx)
      · simp at hx
        have hne : al ≠ [] := by intro e; rw [e] at hal; simp at hal
        have hm : al.getLastD 0 ∈ al := by rw [List.getLastD_eq_getLast?, List.getLast?_eq_some_getLast hne]; simp
        have := h7 _ hm
        simp at hg
        rw [List.getLastD_eq_getLast?] at this
        omega
  rename_i hf
  rw [if_neg hf]
  split at h0'
  · rename_i hg
    rw [if_pos hg]
    have : 0 < op.length := List.length_pos_iff.2 hg.1
    refine ⟨by simp, by simp, by simp, by simp; omega, ?_, by simp; omega, ?_⟩
    · intro x hx; exact h5 x (List.dropLast_subset _ hx)
    · intro x hx; exact h7 x (List.dropLast_subset _ hx)
  · simp at h0'
end Go.Proofs.Ytnfaiaoipeholaa
