/- A tree, as choices make it. No Go here. -/
import Derived.Test.YtnfaiaoipeholaaFitMath
import Derived.Test.YtnfaiaoipeholaaCntMath
namespace Go.Proofs.Ytnfaiaoipeholaa

/-- the alternatives that fit -/
def fitL (s : ByteArray) (l x : Nat) : List Nat := (List.range (sts s x).length).filter fun k => altFit s (nFit s l) (expFit s (nFit s l)) (fe s ((sts s x).getD k 0)).1
/-- the digit that is taken -/
def dig (c : ByteArray) (a : Nat) : Nat := if cD (bt c a) = true then (bt c a - 48).toNat else 0
def wayN (c : ByteArray) (a n : Nat) : Nat := if n < 2 then 0 else dig c a % n
def wayA (a n : Nat) : Nat := if n < 2 then a else a + 1
theorem wayN_lt (c : ByteArray) (a n : Nat) (h : 0 < n) : wayN c a n < n := by
  unfold wayN; split
  · exact h
  · exact Nat.mod_lt _ h
theorem wayA_le (a n : Nat) : a ≤ wayA a n ∧ wayA a n ≤ a + 1 := by unfold wayA; split <;> omega
theorem dig_bd (c : ByteArray) (a : Nat) : dig c a ≤ 9 := by
  unfold dig; split
  · rename_i h; simp [cD] at h; omega
  · omega
/-- how few and how many may be in a bracket -/
def few (c : Int) : Nat := if c = 40 ∨ c = 60 then 1 else 0
def grt (m : Nat) (c : Int) : Nat := if c = 40 ∨ c = 91 then 1 else m
def cnt (s : ByteArray) (m l f : Nat) : Nat := if expFit s (nFit s l) (f + 1) = true then grt m (bt s f) - few (bt s f) + 1 else 1

/-- elements, with commas between -/
def elsG (rec : Nat → Nat × List Int) (a : Nat) : Nat → Nat × List Int
  | 0 => (a, [])
  | i + 1 => ((rec (elsG rec a i).1).1, (elsG rec a i).2 ++ ((if i = 0 then [] else [44]) ++ (rec (elsG rec a i).1).2))
/-- factors -/
def facsG (g : Nat → Nat → Nat × List Int) : List Nat → Nat → Nat × List Int
  | [], a => (a, [])
  | f :: L, a => ((facsG g L (g f a).1).1, (g f a).2 ++ (facsG g L (g f a).1).2)
/-- behind a name's mark -/
def genN (s : ByteArray) (rec : Nat → Nat → Nat → Nat × List Int) (l f a : Nat) : Nat × List Int :=
  ((rec (l - 1) (rl s (bt s f) + 2).toNat a).1, 40 :: ((rec (l - 1) (rl s (bt s f) + 2).toNat a).2 ++ [41]))
/-- behind a bracket that opens -/
def genB (s c : ByteArray) (m : Nat) (rec : Nat → Nat → Nat → Nat × List Int) (l f a : Nat) : Nat × List Int :=
  ((elsG (rec l (f + 1)) (wayA a (cnt s m l f)) (few (bt s f) + wayN c a (cnt s m l f))).1, (elsG (rec l (f + 1)) (wayA a (cnt s m l f)) (few (bt s f) + wayN c a (cnt s m l f))).2 ++ [cC (bt s f)])
/-- a factor -/
def genF (s c : ByteArray) (m : Nat) (rec : Nat → Nat → Nat → Nat × List Int) (l f a : Nat) : Nat × List Int :=
  if cN (bt s f) = true then ((genN s rec l f a).1, bt s f :: (genN s rec l f a).2)
  else if cO (bt s f) = true then ((genB s c m rec l f a).1, bt s f :: (genB s c m rec l f a).2)
  else (a, [bt s f])
/-- the alternative that is gone -/
def gone (s c : ByteArray) (l x a : Nat) : Nat := (fitL s l x).getD (wayN c a (fitL s l x).length) 0
/-- an expression -/
def genE (s c : ByteArray) (m : Nat) : Nat → Nat → Nat → Nat → Nat × List Int
  | 0, _, _, a => (a, [])
  | n + 1, l, x, a =>
    ((facsG (genF s c m (genE s c m n) l) (fe s ((sts s x).getD (gone s c l x a) 0)).1 (wayA a (fitL s l x).length)).1,
      (48 + (gone s c l x a : Int)) :: (facsG (genF s c m (genE s c m n) l) (fe s ((sts s x).getD (gone s c l x a) 0)).1 (wayA a (fitL s l x).length)).2)
theorem fitL_ne {s : ByteArray} {l x : Nat} (h : expFit s (nFit s l) x = true) : 0 < (fitL s l x).length := by
  rw [expFit_step, List.any_eq_true] at h
  obtain ⟨a, ha, hh⟩ := h
  obtain ⟨k, hk, rfl⟩ := List.getElem_of_mem ha
  refine List.length_pos_iff.2 (List.ne_nil_of_mem (a := k) ?_)
  unfold fitL
  rw [List.mem_filter]
  refine ⟨by simpa using hk, ?_⟩
  rw [List.getD_eq_getElem?_getD, List.getElem?_eq_getElem hk]
  exact hh
theorem fitL_mem {s : ByteArray} {l x k : Nat} (h : k ∈ fitL s l x) : k < (sts s x).length ∧ ∀ f ∈ (fe s ((sts s x).getD k 0)).1, facFit s (nFit s l) (expFit s (nFit s l)) f = true := by
  unfold fitL at h
  rw [List.mem_filter] at h
  refine ⟨by simpa using h.1, ?_⟩
  have := h.2
  unfold altFit at this
  rw [List.all_eq_true] at this
  exact this
theorem fitL_len (s : ByteArray) (l x : Nat) : (fitL s l x).length ≤ (sts s x).length := by
  have := List.length_filter_le (fun k => altFit s (nFit s l) (expFit s (nFit s l)) (fe s ((sts s x).getD k 0)).1) (List.range (sts s x).length)
  simpa [fitL] using this
theorem gone_mem {s c : ByteArray} {l x a : Nat} (h : expFit s (nFit s l) x = true) : gone s c l x a ∈ fitL s l x := by
  have h1 := wayN_lt c a _ (fitL_ne h)
  unfold gone
  rw [List.getD_eq_getElem?_getD, List.getElem?_eq_getElem h1]
  exact List.getElem_mem h1

/-- what has been made of what is to be made: all of it, or more than may be -/
def Ends (T : List Int) (p : Nat × List Int) (a : Nat) (T' : List Int) : Prop :=
  T.length ≤ T'.length ∧ (T.length + p.2.length ≤ 2000 → a = p.1 ∧ T' = T ++ p.2) ∧ (2000 < T.length + p.2.length → 2000 < T'.length)
theorem Ends.put (T l : List Int) (a : Nat) : Ends T (a, l) a (T ++ l) := ⟨by simp, fun _ => ⟨rfl, rfl⟩, fun h => by simpa using h⟩
theorem Ends.nil (T : List Int) (a : Nat) : Ends T (a, []) a T := ⟨Nat.le_refl _, fun _ => ⟨rfl, by simp⟩, fun h => by simpa using h⟩
theorem Ends.seq {T T1 T2 : List Int} {p : Nat × List Int} {q : Nat → Nat × List Int} {a1 a2 : Nat} (h1 : Ends T p a1 T1) (h2 : Ends T1 (q a1) a2 T2) : Ends T ((q p.1).1, p.2 ++ (q p.1).2) a2 T2 := by
  obtain ⟨m1, e1, b1⟩ := h1
  obtain ⟨m2, e2, b2⟩ := h2
  refine ⟨by omega, fun h => ?_, fun h => ?_⟩
  · simp only [List.length_append] at h
    obtain ⟨r1, r2⟩ := e1 (by omega)
    subst r1 r2
    obtain ⟨r3, r4⟩ := e2 (by simp only [List.length_append]; omega)
    exact ⟨r3, by rw [r4]; simp⟩
  · simp only [List.length_append] at h
    by_cases hb : T.length + p.2.length ≤ 2000
    · obtain ⟨r1, r2⟩ := e1 hb
      subst r1 r2
      exact b2 (by simp only [List.length_append]; omega)
    · have := b1 (by omega); omega
theorem Ends.cut {T T1 : List Int} {p : Nat × List Int} {a1 : Nat} (h1 : Ends T p a1 T1) (hb : 2000 < T1.length) (x : Nat) (q : List Int) : Ends T (x, p.2 ++ q) a1 T1 := by
  obtain ⟨m1, e1, b1⟩ := h1
  refine ⟨m1, fun h => ?_, fun _ => hb⟩
  simp only [List.length_append] at h
  obtain ⟨_, r2⟩ := e1 (by omega)
  subst r2
  simp only [List.length_append] at hb; omega
theorem Ends.skip {T : List Int} (hb : 2000 < T.length) (p : Nat × List Int) (a : Nat) : Ends T p a T := ⟨Nat.le_refl _, fun h => by omega, fun _ => hb⟩
theorem Ends.seq' {T T1 T2 : List Int} {p r : Nat × List Int} {q : Nat → Nat × List Int} {a1 a2 : Nat} (h1 : Ends T p a1 T1) (h2 : Ends T1 (q a1) a2 T2) (e : r = ((q p.1).1, p.2 ++ (q p.1).2)) : Ends T r a2 T2 := by rw [e]; exact h1.seq h2

/-- how much is to be made, at most -/
def dep (s : ByteArray) (l x : Nat) : Nat := l * (s.size + 2) + (s.size + 1 - x)
theorem dep_sub {s : ByteArray} {l x f : Nat} (h1 : x ≤ f) (h2 : f < s.size) : dep s l (f + 1) < dep s l x := by unfold dep; omega
theorem dep_name {s : ByteArray} {l x y : Nat} (h1 : x ≤ s.size) (h : 0 < l) : dep s (l - 1) y < dep s l x := by
  obtain ⟨k, rfl⟩ : ∃ k, l = k + 1 := ⟨l - 1, by omega⟩
  unfold dep
  rw [Nat.add_sub_cancel, Nat.succ_mul]; omega
end Go.Proofs.Ytnfaiaoipeholaa
