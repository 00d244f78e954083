/- Trees as trees: what they are written as, how they are read. No Go here. -/
import Derived.Test.YtnfaiaoipeholaaWnInv
namespace Go.Proofs.Ytnfaiaoipeholaa
mutual
/-- a tree of an expression: its number, its factors -/
inductive TE : Type
  | mk (d : Nat) (fs : TFs)
/-- factors -/
inductive TFs : Type
  | nil
  | cons (f : TF) (fs : TFs)
/-- a factor: a letter, a name with its tree, a bracket with its elements -/
inductive TF : Type
  | lt (c : Int)
  | nm (c : Int) (e : TE)
  | br (o : Int) (es : TEs)
/-- elements -/
inductive TEs : Type
  | nil
  | cons (e : TE) (es : TEs)
end
def TEs.len : TEs → Nat
  | .nil => 0
  | .cons _ es => es.len + 1
mutual
/-- as it is written -/
def TE.rd : TE → List Int
  | .mk d fs => (48 + (d : Int)) :: fs.rd
def TFs.rd : TFs → List Int
  | .nil => []
  | .cons f fs => f.rd ++ fs.rd
def TF.rd : TF → List Int
  | .lt c => [c]
  | .nm c e => c :: 40 :: (e.rd ++ [41])
  | .br o es => o :: (es.rd ++ [cC o])
def TEs.rd : TEs → List Int
  | .nil => []
  | .cons e es => e.rd ++ es.rt
/-- further elements -/
def TEs.rt : TEs → List Int
  | .nil => []
  | .cons e es => 44 :: (e.rd ++ es.rt)
end
mutual
/-- how many names stand around one another -/
def TE.ht : TE → Nat
  | .mk _ fs => fs.ht
def TFs.ht : TFs → Nat
  | .nil => 0
  | .cons f fs => max f.ht fs.ht
def TF.ht : TF → Nat
  | .lt _ => 0
  | .nm _ e => e.ht + 1
  | .br _ es => es.ht
def TEs.ht : TEs → Nat
  | .nil => 0
  | .cons e es => max e.ht es.ht
end
/-- how many elements a bracket may have -/
def okN (o : Int) (n : Nat) : Prop := (o = 40 → n = 1) ∧ (o = 91 → n ≤ 1) ∧ (o = 60 → 1 ≤ n)
mutual
/-- a tree of the expression that begins here -/
def TE.ok (s : ByteArray) : TE → Nat → Prop
  | .mk d fs, x => d ≤ 9 ∧ ∃ a, ap s d x = some a ∧ fs.ok s (fe s a).1
def TFs.ok (s : ByteArray) : TFs → List Nat → Prop
  | .nil, l => l = []
  | .cons f fs, l => ∃ p q, l = p :: q ∧ f.ok s p ∧ fs.ok s q
def TF.ok (s : ByteArray) : TF → Nat → Prop
  | .lt c, p => cL (bt s p) = true ∧ c = bt s p
  | .nm c e, p => cN (bt s p) = true ∧ c = bt s p ∧ e.ok s (rl s (bt s p) + 2).toNat
  | .br o es, p => cO (bt s p) = true ∧ o = bt s p ∧ okN o es.len ∧ es.ok s (p + 1)
def TEs.ok (s : ByteArray) : TEs → Nat → Prop
  | .nil, _ => True
  | .cons e es, x => e.ok s x ∧ es.ok s x
end
section
variable {s t : ByteArray}
theorem TE.rd_pos : ∀ e : TE, 1 ≤ e.rd.length
  | .mk d fs => by simp [TE.rd]
set_option maxHeartbeats 4000000 in
mutual
theorem TE.read (n : Nat) : ∀ (e : TE) (x i : Nat), e.ok s x → At t i e.rd → e.rd.length ≤ n → pE s t 0 n x i = some (i + e.rd.length, e.ht)
  | .mk d fs, x, i, hv, hA, hn => by
    simp only [TE.ok] at hv
    obtain ⟨hd, a, ha, hf⟩ := hv
    simp only [TE.rd, List.length_cons] at hA hn ⊢
    obtain ⟨n', rfl⟩ : ∃ n', n = n' + 1 := ⟨n - 1, by omega⟩
    have hb : bt t i = 48 + (d : Int) := hA.head
    unfold pE
    rw [if_pos (by rw [hb]; simp [cD]; omega), hb, show (48 + (d : Int) - 48).toNat = d by omega, ha]
    simp only
    have := TFs.read n' fs (fe s a).1 (i + 1) 0 (fun f hf => (fe_mem hf).1) hf hA.tail (by omega)
    rw [this]
    simp only [TE.ht]
    congr 2
    · omega
theorem TFs.read (n : Nat) : ∀ (fs : TFs) (l : List Nat) (i top : Nat), (∀ f ∈ l, isF s f = true) → fs.ok s l → At t i fs.rd → fs.rd.length ≤ n → pFs (pF s t 0 (pE s t 0 n)) l i top = some (i + fs.rd.length, max top fs.ht)
  | .nil, l, i, top, hl, hv, hA, hn => by
    simp only [TFs.ok] at hv
    subst hv
    simp [pFs, TFs.rd, TFs.ht]
  | .cons f fs, l, i, top, hl, hv, hA, hn => by
    simp only [TFs.ok] at hv
    obtain ⟨p, q, rfl, h1, h2⟩ := hv
    simp only [TFs.rd, List.length_append] at hA hn ⊢
    have r1 := TF.read n f p i (hl p (by simp)) h1 hA.left (by omega)
    have r2 := TFs.read n fs q (i + f.rd.length) (max top f.ht) (fun f' hf => hl f' (by simp [hf])) h2 hA.right (by omega)
    unfold pFs
    rw [r1]
    simp only
    rw [r2]
    simp only [TFs.ht]
    congr 2
    · omega
    · omega
theorem TF.read (n : Nat) : ∀ (f : TF) (p i : Nat), isF s p = true → f.ok s p → At t i f.rd → f.rd.length ≤ n → pF s t 0 (pE s t 0 n) p i = some (i + f.rd.length, f.ht)
  | .lt c, p, i, hp, hv, hA, hn => by
    simp only [TF.ok] at hv
    obtain ⟨h1, h2⟩ := hv
    simp only [TF.rd] at hA
    unfold pF
    rw [if_neg (by have := hA.head; omega), if_pos h1]
    rfl
  | .nm c e, p, i, hp, hv, hA, hn => by
    simp only [TF.ok] at hv
    obtain ⟨h1, h2, h3⟩ := hv
    simp only [TF.rd, List.length_cons, List.length_append, List.length_nil] at hA hn ⊢
    have hl : ¬ cL (bt s p) = true := by
      have hv : 65 ≤ bt s p ∧ bt s p ≤ 90 := by simpa [cN] using h1
      simp [cL]; omega
    have r := TE.read n e _ (i + 1 + 1) h3 hA.tail.tail.left (by omega)
    have h40 : bt t ((i + 1 : Nat) : Int) = 40 := hA.tail.head
    have h41 : bt t ((i + 1 + 1 + e.rd.length : Nat) : Int) = 41 := hA.tail.tail.right.head
    unfold pF
    rw [if_neg (by have := hA.head; omega), if_neg hl, if_pos h1]
    unfold pN
    rw [if_neg (by omega), r]
    simp only
    rw [if_pos h41]
    simp only [TF.ht]
    congr 2; omega
  | .br o es, p, i, hp, hv, hA, hn => by
    simp only [TF.ok] at hv
    obtain ⟨h1, h2, h3, h4⟩ := hv
    simp only [TF.rd, List.length_cons, List.length_append, List.length_nil] at hA hn ⊢
    have hov := cO_vals h1
    have hl : ¬ cL (bt s p) = true := by simp [cL]; omega
    have hnn : ¬ cN (bt s p) = true := by simp [cN]; omega
    have hc0 : cC (bt s p) ≠ 0 := by simpa [cO] using h1
    have hb0 : bt t i = o := hA.head
    unfold pF
    rw [if_neg (by omega), if_neg hl, if_neg hnn]
    unfold pB
    cases es with
    | nil =>
      simp only [TEs.rd, List.length_nil, List.nil_append, TEs.len] at hA h3 ⊢
      have hcl : bt t ((i + 1 : Nat) : Int) = cC o := hA.tail.head
      obtain ⟨o1, o2, o3⟩ := h3
      rw [if_pos ⟨by rw [hcl, h2], by
        rcases hov with h | h | h | h
        · have := o1 (by rw [h2, h]); omega
        · exact .inl h
        · exact .inr h
        · have := o3 (by rw [h2, h]); omega⟩]
      rfl
    | cons e es =>
      simp only [TEs.rd] at hA hn ⊢
      have hA2 := hA.tail
      have hdig : cD (bt t ((i + 1 : Nat) : Int)) = true := by
        cases e with
        | mk d fs =>
          simp only [TEs.ok, TE.ok] at h4
          simp only [TE.rd] at hA2
          have : bt t ((i + 1 : Nat) : Int) = 48 + (d : Int) := hA2.head
          rw [this]; simp [cD]; omega
      rw [if_neg (fun hh => by
        have h5 : 48 ≤ bt t ((i + 1 : Nat) : Int) ∧ bt t ((i + 1 : Nat) : Int) ≤ 57 := by simpa [cD] using hdig
        have := cC_vals (bt s p)
        omega)]
      have hm : es.len = 0 ∨ decide (bt s p = 123 ∨ bt s p = 60) = true := by
        simp only [TEs.len] at h3
        obtain ⟨o1, o2, o3⟩ := h3
        rcases hov with h | h | h | h
        · left; have := o1 (by rw [h2, h]); omega
        · left; have := o2 (by rw [h2, h]); omega
        · right; simp [h]
        · right; simp [h]
      simp only [TEs.ok] at h4
      have h6 : At t (i + 1) (e.rd ++ es.rt ++ [cC (bt s p)]) := by rw [← h2]; exact hA2
      have hlen : (e.rd ++ es.rt).length = e.rd.length + es.rt.length := by simp
      have r := TEs.read n es e (p + 1) (decide (bt s p = 123 ∨ bt s p = 60)) (cC (bt s p)) (i + 1) (t.size - (i + 1)) 0 0 (cX_cC _ hc0) h4.1 h4.2 hm h6 (by omega) (Nat.le_refl _)
      rw [r]
      simp only [TF.ht, TEs.ht]
      rw [hlen]
      congr 2
      · omega
theorem TEs.read (n : Nat) : ∀ (es : TEs) (e : TE) (x : Nat) (many : Bool) (c : Int) (i m top : Nat) (cnt : Int), cX c = true → e.ok s x → es.ok s x → (es.len = 0 ∨ many = true) → At t i (e.rd ++ es.rt ++ [c]) → e.rd.length + es.rt.length ≤ n → t.size - i ≤ m → pEl t (pE s t 0 n x) c many 0 m i top cnt = some (i + e.rd.length + es.rt.length + 1, max top (max e.ht es.ht))
  | .nil, e, x, many, c, i, m, top, cnt, hc, h1, h2, h3, hA, hn, hm => by
    simp only [TEs.rt, List.append_nil, List.length_nil] at hA hn ⊢
    have r := TE.read n e x i h1 hA.left (by omega)
    have hb : bt t (i + e.rd.length : Nat) = c := hA.right.head
    have := bt_lt (s := t) (p := i + e.rd.length) (by rw [hb]; intro h0; rw [h0] at hc; exact absurd hc (by decide))
    obtain ⟨m', rfl⟩ : ∃ m', m = m' + 1 := ⟨m - 1, by omega⟩
    unfold pEl
    rw [r]
    simp only
    rw [if_neg (by omega), if_pos hb]
    simp [TEs.ht]
  | .cons e2 es, e, x, many, c, i, m, top, cnt, hc, h1, h2, h3, hA, hn, hm => by
    have hmany : many = true := by
      rcases h3 with h | h
      · simp [TEs.len] at h
      · exact h
    simp only [TEs.ok] at h2
    simp only [TEs.rt, List.length_cons, List.length_append] at hA hn ⊢
    have hA' : At t i (e.rd ++ (44 :: (e2.rd ++ es.rt ++ [c]))) := by simpa using hA
    have r := TE.read n e x i h1 hA'.left (by omega)
    have hb : bt t (i + e.rd.length : Nat) = 44 := hA'.right.head
    have hne : c ≠ 44 := by intro h0; rw [h0] at hc; exact absurd hc (by decide)
    have := bt_lt (s := t) (p := i + e.rd.length) (by rw [hb]; omega)
    have hpos := TE.rd_pos e
    obtain ⟨m', rfl⟩ : ∃ m', m = m' + 1 := ⟨m - 1, by omega⟩
    have r2 := TEs.read n es e2 x many c (i + e.rd.length + 1) m' (max top e.ht) (cnt + 1) hc h2.1 h2.2 (.inr hmany) hA'.right.tail (by omega) (by omega)
    unfold pEl
    rw [r]
    simp only
    rw [if_neg (by omega), if_neg (by omega), if_pos ⟨hb, hmany⟩, r2]
    simp only [TEs.ht]
    congr 2
    · omega
    · omega
end
end
end Go.Proofs.Ytnfaiaoipeholaa
/- Trees as trees: what is read is one. No Go here. -/
namespace Go.Proofs.Ytnfaiaoipeholaa
section
variable {s t : ByteArray}
theorem At.cons {i : Nat} {x : Int} {L : List Int} (h : bt t i = x) (g : At t (i + 1) L) : At t i (x :: L) := fun k hk => by
  cases k with
  | zero => simpa using h
  | succ k =>
    have := g k (by simpa using hk)
    rw [show i + (k + 1) = i + 1 + k by omega, this]; rfl
theorem At.nil (i : Nat) : At t i [] := fun k hk => by simp at hk
theorem At.app {i : Nat} {A B : List Int} (h : At t i A) (g : At t (i + A.length) B) : At t i (A ++ B) := fun k hk => by
  by_cases e : k < A.length
  · rw [h k e, List.getElem_append_left e]
  · have := g (k - A.length) (by simp at hk; omega)
    rw [show i + k = i + A.length + (k - A.length) by omega, this, List.getElem_append_right (by omega)]
/-- an expression that is read is a tree -/
def IsE (s t : ByteArray) (n : Nat) : Prop := ∀ x i j h, pE s t 0 n x i = some (j, h) → ∃ e : TE, e.ok s x ∧ e.ht = h ∧ At t i e.rd ∧ j = i + e.rd.length
theorem pEl_tree {n x : Nat} {c : Int} {many : Bool} (ih : IsE s t n) :
    ∀ m i top cnt j h, pEl t (pE s t 0 n x) c many 0 m i top cnt = some (j, h) → ∃ (e : TE) (es : TEs), e.ok s x ∧ es.ok s x ∧ (es.len = 0 ∨ many = true) ∧ At t i (e.rd ++ es.rt ++ [c]) ∧ j = i + e.rd.length + es.rt.length + 1 ∧ h = max top (max e.ht es.ht)
  | 0, i, top, cnt, j, h, e => by cases e
  | m + 1, i, top, cnt, j, h, e => by
    unfold pEl at e
    cases hq : pE s t 0 n x i with
    | none => rw [hq] at e; cases e
    | some q =>
      obtain ⟨k, h1⟩ := q
      rw [hq] at e
      simp only at e
      obtain ⟨e1, o1, o2, o3, o4⟩ := ih x i k h1 hq
      split at e
      · cases e
      split at e
      · rename_i hb
        simp only [Option.some.injEq, Prod.mk.injEq] at e
        refine ⟨e1, .nil, o1, by simp [TEs.ok], .inl rfl, ?_, by simp [TEs.rt]; omega, by simp [TEs.ht]; omega⟩
        simp only [TEs.rt, List.append_nil]
        exact o3.app (At.cons (by rw [← o4]; exact hb) (At.nil _))
      split at e
      · rename_i hb
        obtain ⟨e2, es, p1, p2, p3, p4, p5, p6⟩ := pEl_tree ih m (k + 1) (max top h1) (cnt + 1) j h e
        refine ⟨e1, .cons e2 es, o1, ?_, .inr hb.2, ?_, ?_, ?_⟩
        · simp only [TEs.ok]; exact ⟨p1, p2⟩
        · have : At t i (e1.rd ++ (44 :: (e2.rd ++ es.rt ++ [c]))) := o3.app (At.cons (by rw [← o4]; exact hb.1) (by rw [← o4]; exact p4))
          simpa [TEs.rt] using this
        · simp only [TEs.rt, List.length_cons, List.length_append]; omega
        · simp only [TEs.ht]; omega
      · cases e
theorem pF_tree {n : Nat} (ih : IsE s t n) {p i j h : Nat} (hp : isF s p = true) (e : pF s t 0 (pE s t 0 n) p i = some (j, h)) : ∃ f : TF, f.ok s p ∧ f.ht = h ∧ At t i f.rd ∧ j = i + f.rd.length := by
  unfold pF at e
  split at e
  · cases e
  rename_i hb
  have hb' : bt t i = bt s p := by simpa using hb
  split at e
  · rename_i hl
    simp only [Option.some.injEq, Prod.mk.injEq] at e
    exact ⟨.lt (bt s p), by simp only [TF.ok]; exact ⟨hl, trivial⟩, by simp [TF.ht]; omega, by simp only [TF.rd]; exact At.cons hb' (At.nil _), by simp [TF.rd]; omega⟩
  rename_i hl
  split at e
  · rename_i hn
    unfold pN at e
    split at e
    · cases e
    rename_i h40
    cases hq : pE s t 0 n (rl s (bt s p) + 2).toNat (i + 1 + 1) with
    | none => rw [hq] at e; cases e
    | some q =>
      obtain ⟨k, h1⟩ := q
      rw [hq] at e
      simp only at e
      obtain ⟨e1, o1, o2, o3, o4⟩ := ih _ _ _ _ hq
      split at e
      · rename_i h41
        simp only [Option.some.injEq, Prod.mk.injEq] at e
        refine ⟨.nm (bt s p) e1, by simp only [TF.ok]; exact ⟨hn, trivial, o1⟩, by simp only [TF.ht]; omega, ?_, by simp [TF.rd]; omega⟩
        simp only [TF.rd]
        exact At.cons hb' (At.cons (by simpa using h40) (o3.app (At.cons (by rw [← o4]; exact h41) (At.nil _))))
      · cases e
  · rename_i hn
    have hc0 := isF_cC hp (by simpa using hl) (by simpa using hn)
    have ho : cO (bt s p) = true := by simp [cO, hc0]
    have hov := cO_vals ho
    unfold pB at e
    split at e
    · rename_i hc
      simp only [Option.some.injEq, Prod.mk.injEq] at e
      refine ⟨.br (bt s p) .nil, ?_, by simp [TF.ht, TEs.ht]; omega, ?_, by simp [TF.rd, TEs.rd]; omega⟩
      · simp only [TF.ok, TEs.len, TEs.ok]
        exact ⟨ho, trivial, ⟨fun h => by omega, fun _ => by omega, fun h => by omega⟩, trivial⟩
      · simp only [TF.rd, TEs.rd, List.nil_append]
        exact At.cons hb' (At.cons hc.1 (At.nil _))
    · obtain ⟨e1, es, p1, p2, p3, p4, p5, p6⟩ := pEl_tree ih _ _ _ _ _ _ e
      refine ⟨.br (bt s p) (.cons e1 es), ?_, by simp only [TF.ht, TEs.ht]; omega, ?_, ?_⟩
      · simp only [TF.ok, TEs.len, TEs.ok]
        refine ⟨ho, trivial, ⟨fun h => ?_, fun h => ?_, fun _ => by omega⟩, p1, p2⟩
        · rcases p3 with p3 | p3
          · omega
          · simp at p3; omega
        · rcases p3 with p3 | p3
          · omega
          · simp at p3; omega
      · simp only [TF.rd, TEs.rd]
        exact At.cons hb' p4
      · simp only [TF.rd, TEs.rd, List.length_cons, List.length_append, List.length_nil]; omega
theorem pFs_tree {n : Nat} (ih : IsE s t n) : ∀ (l : List Nat) (i top j h : Nat), (∀ f ∈ l, isF s f = true) → pFs (pF s t 0 (pE s t 0 n)) l i top = some (j, h) → ∃ fs : TFs, fs.ok s l ∧ h = max top fs.ht ∧ At t i fs.rd ∧ j = i + fs.rd.length
  | [], i, top, j, h, hl, e => by
    simp only [pFs, Option.some.injEq, Prod.mk.injEq] at e
    exact ⟨.nil, by simp [TFs.ok], by simp [TFs.ht]; omega, by simp only [TFs.rd]; exact At.nil _, by simp [TFs.rd]; omega⟩
  | p :: l, i, top, j, h, hl, e => by
    unfold pFs at e
    cases hq : pF s t 0 (pE s t 0 n) p i with
    | none => rw [hq] at e; cases e
    | some q =>
      obtain ⟨k, h1⟩ := q
      rw [hq] at e
      simp only at e
      obtain ⟨f, o1, o2, o3, o4⟩ := pF_tree ih (hl p (by simp)) hq
      obtain ⟨fs, p1, p2, p3, p4⟩ := pFs_tree ih l k _ j h (fun f' hf => hl f' (by simp [hf])) e
      refine ⟨.cons f fs, ?_, by simp only [TFs.ht]; omega, ?_, by simp only [TFs.rd, List.length_append]; omega⟩
      · simp only [TFs.ok]; exact ⟨p, l, rfl, o1, p1⟩
      · simp only [TFs.rd]; exact o3.app (by rw [← o4]; exact p3)
theorem pE_tree : ∀ n, IsE s t n
  | 0, x, i, j, h, e => by cases e
  | n + 1, x, i, j, h, e => by
    have ih : IsE s t n := pE_tree n
    unfold pE at e
    split at e
    · rename_i hd
      have hv : 48 ≤ bt t i ∧ bt t i ≤ 57 := by simpa [cD] using hd
      cases hq : ap s (bt t i - 48).toNat x with
      | none => rw [hq] at e; cases e
      | some a =>
        rw [hq] at e
        simp only at e
        obtain ⟨fs, p1, p2, p3, p4⟩ := pFs_tree ih (fe s a).1 (i + 1) 0 j h (fun f hf => (fe_mem hf).1) e
        refine ⟨.mk (bt t i - 48).toNat fs, ?_, by simp only [TE.ht]; omega, ?_, by simp only [TE.rd, List.length_cons]; omega⟩
        · simp only [TE.ok]; exact ⟨by omega, a, hq, p1⟩
        · simp only [TE.rd]; exact At.cons (by omega) p3
    · cases e
/-- a tree of the grammar, as a tree -/
structure TreeOf (s t : ByteArray) (f : TF) : Prop where
  ok : f.ok s 0
  at_ : At t 0 f.rd
  sz : t.size = f.rd.length
  le : t.size ≤ 2000
theorem whole_tree (hf : isF s 0 = true) {h : Nat} (e : whole s t 0 = some h) : ∃ f : TF, TreeOf s t f ∧ f.ht = h := by
  unfold whole at e
  split at e
  · cases e
  cases hq : pF s t 0 (pE s t 0 (t.size + 1)) 0 0 with
  | none => rw [hq] at e; cases e
  | some q =>
    obtain ⟨j, k⟩ := q
    rw [hq] at e
    simp only at e
    split at e
    · rename_i hj
      obtain ⟨f, o1, o2, o3, o4⟩ := pF_tree (pE_tree _) hf hq
      simp only [Option.some.injEq] at e
      exact ⟨f, ⟨o1, o3, by omega, by omega⟩, by omega⟩
    · cases e
theorem TreeOf.whole (hf : isF s 0 = true) {f : TF} (h : TreeOf s t f) : whole s t 0 = some f.ht := by
  unfold Go.Proofs.Ytnfaiaoipeholaa.whole
  have := TF.read (s := s) (t := t) (t.size + 1) f 0 0 hf h.ok h.at_ (by have := h.sz; omega)
  rw [if_neg (by have := h.le; omega), this]
  simp only
  rw [if_pos (by have := h.sz; omega)]
end
end Go.Proofs.Ytnfaiaoipeholaa
/- Trees as trees: the steps, and what they leave. No Go here. -/
namespace Go.Proofs.Ytnfaiaoipeholaa
/-- elements without one of them -/
def TEs.del : TEs → Nat → TEs
  | .nil, _ => .nil
  | .cons _ es, 0 => es
  | .cons e es, k + 1 => .cons e (es.del k)
/-- how many steps a bracket has of its own -/
def ownN (o : Int) (n : Nat) : Nat := if o = 91 then (if n = 1 then 1 else 0) else if o = 123 then n else if o = 60 then (if 1 < n then n else 0) else 0
mutual
/-- the names that stand within, of one kind -/
def TE.inn (c : Int) : TE → List TF
  | .mk _ fs => fs.inn c
def TFs.inn (c : Int) : TFs → List TF
  | .nil => []
  | .cons f fs => f.inn c ++ fs.inn c
def TF.inn (c : Int) : TF → List TF
  | .lt _ => []
  | .nm c' e => (if c' = c then [.nm c' e] else []) ++ e.inn c
  | .br _ es => es.inn c
def TEs.inn (c : Int) : TEs → List TF
  | .nil => []
  | .cons e es => e.inn c ++ es.inn c
end
mutual
/-- what one step makes of it -/
def TE.st : TE → List TE
  | .mk d fs => fs.st.map (.mk d)
def TFs.st : TFs → List TFs
  | .nil => []
  | .cons f fs => f.st.map (fun f' => .cons f' fs) ++ fs.st.map (fun fs' => .cons f fs')
def TF.st : TF → List TF
  | .lt _ => []
  | .nm c e => e.inn c ++ e.st.map (.nm c)
  | .br o es => (List.range (ownN o es.len)).map (fun k => .br o (es.del k)) ++ es.st.map (.br o)
def TEs.st : TEs → List TEs
  | .nil => []
  | .cons e es => e.st.map (fun e' => .cons e' es) ++ es.st.map (fun es' => .cons e es')
end
/-- numbers of a tree: bytes, letters, steps, height, names -/
structure Nu where
  sz : Nat
  wl : Nat
  sn : Nat
  ht : Nat
  nc : Int → Nat
structure Nu.le (a b : Nu) : Prop where
  sz : a.sz ≤ b.sz
  wl : a.wl ≤ b.wl
  sn : a.sn ≤ b.sn
  ht : a.ht ≤ b.ht
  nc : ∀ c, a.nc c ≤ b.nc c
def Nu.zero : Nu := ⟨0, 0, 0, 0, fun _ => 0⟩
def Nu.add (a b : Nu) : Nu := ⟨a.sz + b.sz, a.wl + b.wl, a.sn + b.sn, max a.ht b.ht, fun c => a.nc c + b.nc c⟩
def Nu.more (a : Nu) (k : Nat) : Nu := ⟨a.sz + k, a.wl, a.sn, a.ht, a.nc⟩
def Nu.name (a : Nu) (c : Int) : Nu := ⟨a.sz + 3, a.wl, a.nc c + a.sn, a.ht + 1, fun c' => (if c = c' then 1 else 0) + a.nc c'⟩
def Nu.brk (a : Nu) (o : Int) (n : Nat) : Nu := ⟨a.sz + (if n = 0 then 2 else 1), a.wl, ownN o n + a.sn, a.ht, a.nc⟩
mutual
def TE.nu : TE → Nu
  | .mk _ fs => fs.nu.more 1
def TFs.nu : TFs → Nu
  | .nil => .zero
  | .cons f fs => f.nu.add fs.nu
def TF.nu : TF → Nu
  | .lt _ => ⟨1, 1, 0, 0, fun _ => 0⟩
  | .nm c e => e.nu.name c
  | .br o es => es.nu.brk o es.len
def TEs.nu : TEs → Nu
  | .nil => .zero
  | .cons e es => (e.nu.more 1).add es.nu
end
section
theorem Nu.le.rfl {a : Nu} : a.le a := ⟨Nat.le_refl _, Nat.le_refl _, Nat.le_refl _, Nat.le_refl _, fun _ => Nat.le_refl _⟩
theorem Nu.le.trans {a b c : Nu} (h : a.le b) (g : b.le c) : a.le c := ⟨Nat.le_trans h.sz g.sz, Nat.le_trans h.wl g.wl, Nat.le_trans h.sn g.sn, Nat.le_trans h.ht g.ht, fun x => Nat.le_trans (h.nc x) (g.nc x)⟩
theorem Nu.add_l {a b c : Nu} (h : a.le b) : (a.add c).le (b.add c) := ⟨by have := h.sz; simp [Nu.add]; omega, by have := h.wl; simp [Nu.add]; omega, by have := h.sn; simp [Nu.add]; omega, by have := h.ht; simp [Nu.add]; omega, fun x => by have := h.nc x; simp [Nu.add]; omega⟩
theorem Nu.add_r {a b c : Nu} (h : a.le b) : (c.add a).le (c.add b) := ⟨by have := h.sz; simp [Nu.add]; omega, by have := h.wl; simp [Nu.add]; omega, by have := h.sn; simp [Nu.add]; omega, by have := h.ht; simp [Nu.add]; omega, fun x => by have := h.nc x; simp [Nu.add]; omega⟩
theorem Nu.le_add_l (a b : Nu) : a.le (a.add b) := ⟨by simp [Nu.add], by simp [Nu.add], by simp [Nu.add], by simp [Nu.add]; omega, fun x => by simp [Nu.add]⟩
theorem Nu.le_add_r (a b : Nu) : b.le (a.add b) := ⟨by simp [Nu.add], by simp [Nu.add], by simp [Nu.add], by simp [Nu.add]; omega, fun x => by simp [Nu.add]⟩
theorem Nu.le_more (a : Nu) (k : Nat) : a.le (a.more k) := ⟨by simp [Nu.more], Nat.le_refl _, Nat.le_refl _, Nat.le_refl _, fun _ => Nat.le_refl _⟩
theorem Nu.more_le {a b : Nu} (h : a.le b) (k : Nat) : (a.more k).le (b.more k) := ⟨by have := h.sz; simp [Nu.more]; omega, h.wl, h.sn, h.ht, h.nc⟩
theorem Nu.name_le {a b : Nu} (h : a.le b) (c : Int) : (a.name c).le (b.name c) := ⟨by have := h.sz; simp [Nu.name]; omega, h.wl, by have := h.sn; have := h.nc c; simp [Nu.name]; omega, by have := h.ht; simp [Nu.name]; omega, fun x => by have := h.nc x; simp [Nu.name]; omega⟩
theorem Nu.le_name (a : Nu) (c : Int) : a.le (a.name c) := ⟨by simp [Nu.name], Nat.le_refl _, by simp [Nu.name], by simp [Nu.name], fun x => by simp [Nu.name]⟩
theorem Nu.brk_le {a b : Nu} (h : a.le b) (o : Int) (n : Nat) : (a.brk o n).le (b.brk o n) := ⟨by have := h.sz; simp [Nu.brk]; omega, h.wl, by have := h.sn; simp [Nu.brk]; omega, h.ht, h.nc⟩
theorem Nu.le_brk (a : Nu) (o : Int) (n : Nat) : a.le (a.brk o n) := ⟨by simp [Nu.brk], Nat.le_refl _, by simp [Nu.brk], Nat.le_refl _, fun _ => Nat.le_refl _⟩
mutual
/-- a name that stands within is no greater -/
theorem TE.inn_le (c : Int) : ∀ (e : TE) (g : TF), g ∈ e.inn c → g.nu.le e.nu
  | .mk _ fs, g, h => by
    simp only [TE.inn] at h
    simp only [TE.nu]
    exact (TFs.inn_le c fs g h).trans (Nu.le_more _ _)
theorem TFs.inn_le (c : Int) : ∀ (fs : TFs) (g : TF), g ∈ fs.inn c → g.nu.le fs.nu
  | .nil, g, h => by simp [TFs.inn] at h
  | .cons f fs, g, h => by
    simp only [TFs.inn, List.mem_append] at h
    simp only [TFs.nu]
    rcases h with h | h
    · exact (TF.inn_le c f g h).trans (Nu.le_add_l _ _)
    · exact (TFs.inn_le c fs g h).trans (Nu.le_add_r _ _)
theorem TF.inn_le (c : Int) : ∀ (f g : TF), g ∈ f.inn c → g.nu.le f.nu
  | .lt _, g, h => by simp [TF.inn] at h
  | .nm c' e, g, h => by
    simp only [TF.inn, List.mem_append] at h
    rcases h with h | h
    · split at h
      · simp at h; subst h; exact Nu.le.rfl
      · simp at h
    · simp only [TF.nu]
      exact (TE.inn_le c e g h).trans (Nu.le_name _ _)
  | .br o es, g, h => by
    simp only [TF.inn] at h
    simp only [TF.nu]
    exact (TEs.inn_le c es g h).trans (Nu.le_brk _ _ _)
theorem TEs.inn_le (c : Int) : ∀ (es : TEs) (g : TF), g ∈ es.inn c → g.nu.le es.nu
  | .nil, g, h => by simp [TEs.inn] at h
  | .cons e es, g, h => by
    simp only [TEs.inn, List.mem_append] at h
    simp only [TEs.nu]
    rcases h with h | h
    · exact ((TE.inn_le c e g h).trans (Nu.le_more _ _)).trans (Nu.le_add_l _ _)
    · exact (TEs.inn_le c es g h).trans (Nu.le_add_r _ _)
end
theorem TEs.del_len : ∀ (es : TEs) (k : Nat), k < es.len → (es.del k).len + 1 = es.len
  | .nil, k, h => by simp [TEs.len] at h
  | .cons e es, 0, h => by simp [TEs.del, TEs.len]
  | .cons e es, k + 1, h => by
    simp only [TEs.len] at h
    simp only [TEs.del, TEs.len]
    rw [TEs.del_len es k (by omega)]
theorem TE.nu_pos : ∀ e : TE, 1 ≤ e.nu.sz
  | .mk _ fs => by simp [TE.nu, Nu.more]
theorem TEs.del_le : ∀ (es : TEs) (k : Nat), k < es.len → (es.del k).nu.le es.nu ∧ (es.del k).nu.sz + 2 ≤ es.nu.sz
  | .nil, k, h => by simp [TEs.len] at h
  | .cons e es, 0, h => by
    simp only [TEs.del, TEs.nu]
    refine ⟨Nu.le_add_r _ _, ?_⟩
    have := TE.nu_pos e
    simp [Nu.add, Nu.more]; omega
  | .cons e es, k + 1, h => by
    simp only [TEs.len] at h
    obtain ⟨h1, h2⟩ := TEs.del_le es k (by omega)
    simp only [TEs.del, TEs.nu]
    exact ⟨Nu.add_r h1, by simp [Nu.add]; omega⟩
theorem ownN_mono {o : Int} {n : Nat} (h : 0 < ownN o (n + 1)) : ownN o n ≤ ownN o (n + 1) := by
  unfold ownN at h ⊢
  by_cases h1 : o = 91
  · simp only [if_pos h1] at h ⊢
    split at h
    · split <;> omega
    · omega
  · simp only [if_neg h1] at h ⊢
    by_cases h2 : o = 123
    · simp only [if_pos h2]; omega
    · simp only [if_neg h2]
      split
      · split <;> split <;> omega
      · omega
theorem ownN_le (o : Int) (n : Nat) : ownN o n ≤ n := by
  unfold ownN
  split
  · split <;> omega
  split
  · omega
  split
  · split <;> omega
  · omega
theorem brk_del {o : Int} {es : TEs} {k : Nat} (h : k < es.len) (ho : 0 < ownN o es.len) : ((es.del k).nu.brk o (es.del k).len).le (es.nu.brk o es.len) ∧ ((es.del k).nu.brk o (es.del k).len).sz < (es.nu.brk o es.len).sz := by
  obtain ⟨h1, h2⟩ := TEs.del_le es k h
  have h3 := TEs.del_len es k h
  have h4 := ownN_mono (o := o) (n := (es.del k).len) (by rw [h3]; exact ho)
  rw [h3] at h4
  have hs := h1.sn
  refine ⟨⟨?_, h1.wl, by simp [Nu.brk]; omega, h1.ht, h1.nc⟩, ?_⟩
  · simp only [Nu.brk]; split <;> split <;> omega
  · simp only [Nu.brk]; split <;> split <;> omega
mutual
/-- a step leaves less -/
theorem TE.st_le : ∀ (e e' : TE), e' ∈ e.st → e'.nu.le e.nu ∧ e'.nu.sz < e.nu.sz
  | .mk d fs, e', h => by
    simp only [TE.st, List.mem_map] at h
    obtain ⟨fs', h1, rfl⟩ := h
    obtain ⟨h2, h3⟩ := TFs.st_le fs fs' h1
    simp only [TE.nu]
    exact ⟨Nu.more_le h2 1, by simp [Nu.more]; omega⟩
theorem TFs.st_le : ∀ (fs fs' : TFs), fs' ∈ fs.st → fs'.nu.le fs.nu ∧ fs'.nu.sz < fs.nu.sz
  | .nil, fs', h => by simp [TFs.st] at h
  | .cons f fs, fs', h => by
    simp only [TFs.st, List.mem_append, List.mem_map] at h
    rcases h with ⟨f', h1, rfl⟩ | ⟨g, h1, rfl⟩
    · obtain ⟨h2, h3⟩ := TF.st_le f f' h1
      simp only [TFs.nu]
      exact ⟨Nu.add_l h2, by simp [Nu.add]; omega⟩
    · obtain ⟨h2, h3⟩ := TFs.st_le fs g h1
      simp only [TFs.nu]
      exact ⟨Nu.add_r h2, by simp [Nu.add]; omega⟩
theorem TF.st_le : ∀ (f f' : TF), f' ∈ f.st → f'.nu.le f.nu ∧ f'.nu.sz < f.nu.sz
  | .lt _, f', h => by simp [TF.st] at h
  | .nm c e, f', h => by
    simp only [TF.st, List.mem_append, List.mem_map] at h
    simp only [TF.nu]
    rcases h with h | ⟨e', h1, rfl⟩
    · have h2 := TE.inn_le c e f' h
      refine ⟨h2.trans (Nu.le_name _ _), ?_⟩
      have := h2.sz
      simp [Nu.name]; omega
    · obtain ⟨h2, h3⟩ := TE.st_le e e' h1
      simp only [TF.nu]
      exact ⟨Nu.name_le h2 c, by simp [Nu.name]; omega⟩
  | .br o es, f', h => by
    simp only [TF.st, List.mem_append, List.mem_map] at h
    rcases h with ⟨k, h1, rfl⟩ | ⟨es', h1, rfl⟩
    · have hk : k < es.len := by
        have := ownN_le o es.len
        simp at h1; omega
      simp only [TF.nu]
      exact brk_del hk (by simp at h1; omega)
    · obtain ⟨h2, h3, h4⟩ := TEs.st_le es es' h1
      simp only [TF.nu]
      rw [h4]
      exact ⟨Nu.brk_le h2 o _, by simp [Nu.brk]; omega⟩
theorem TEs.st_le : ∀ (es es' : TEs), es' ∈ es.st → es'.nu.le es.nu ∧ es'.nu.sz < es.nu.sz ∧ es'.len = es.len
  | .nil, es', h => by simp [TEs.st] at h
  | .cons e es, es', h => by
    simp only [TEs.st, List.mem_append, List.mem_map] at h
    rcases h with ⟨e', h1, rfl⟩ | ⟨g, h1, rfl⟩
    · obtain ⟨h2, h3⟩ := TE.st_le e e' h1
      simp only [TEs.nu, TEs.len]
      exact ⟨Nu.add_l (Nu.more_le h2 1), by simp [Nu.add, Nu.more]; omega, trivial⟩
    · obtain ⟨h2, h3, h4⟩ := TEs.st_le es g h1
      simp only [TEs.nu, TEs.len]
      exact ⟨Nu.add_r h2, by simp [Nu.add]; omega, by omega⟩
end
end
end Go.Proofs.Ytnfaiaoipeholaa
/- Trees as trees: their numbers are those of the text; steps lead to trees; how many steps there are. No Go here. -/
namespace Go.Proofs.Ytnfaiaoipeholaa
mutual
theorem TE.nu_len : ∀ e : TE, e.rd.length = e.nu.sz
  | .mk _ fs => by simp [TE.rd, TE.nu, Nu.more, TFs.nu_len fs]
theorem TFs.nu_len : ∀ fs : TFs, fs.rd.length = fs.nu.sz
  | .nil => by simp [TFs.rd, TFs.nu, Nu.zero]
  | .cons f fs => by simp [TFs.rd, TFs.nu, Nu.add, TF.nu_len f, TFs.nu_len fs]
theorem TF.nu_len : ∀ f : TF, f.rd.length = f.nu.sz
  | .lt _ => by simp [TF.rd, TF.nu]
  | .nm _ e => by simp [TF.rd, TF.nu, Nu.name, TE.nu_len e]
  | .br o .nil => by simp [TF.rd, TF.nu, TEs.rd, TEs.nu, Nu.brk, Nu.zero, TEs.len]
  | .br o (.cons e es) => by simp [TF.rd, TF.nu, TEs.rd, TEs.nu, Nu.brk, Nu.add, Nu.more, TEs.len, TE.nu_len e, TEs.nu_len es]; omega
theorem TEs.nu_len : ∀ es : TEs, es.rt.length = es.nu.sz
  | .nil => by simp [TEs.rt, TEs.nu, Nu.zero]
  | .cons e es => by simp [TEs.rt, TEs.nu, Nu.add, Nu.more, TE.nu_len e, TEs.nu_len es]; omega
end
mutual
theorem TE.nu_ht : ∀ e : TE, e.ht = e.nu.ht
  | .mk _ fs => by simp [TE.ht, TE.nu, Nu.more, TFs.nu_ht fs]
theorem TFs.nu_ht : ∀ fs : TFs, fs.ht = fs.nu.ht
  | .nil => by simp [TFs.ht, TFs.nu, Nu.zero]
  | .cons f fs => by simp [TFs.ht, TFs.nu, Nu.add, TF.nu_ht f, TFs.nu_ht fs]
theorem TF.nu_ht : ∀ f : TF, f.ht = f.nu.ht
  | .lt _ => by simp [TF.ht, TF.nu]
  | .nm _ e => by simp [TF.ht, TF.nu, Nu.name, TE.nu_ht e]
  | .br _ es => by simp [TF.ht, TF.nu, Nu.brk, TEs.nu_ht es]
theorem TEs.nu_ht : ∀ es : TEs, es.ht = es.nu.ht
  | .nil => by simp [TEs.ht, TEs.nu, Nu.zero]
  | .cons e es => by simp [TEs.ht, TEs.nu, Nu.add, Nu.more, TE.nu_ht e, TEs.nu_ht es]
end
mutual
theorem TE.nu_nc (c : Int) : ∀ e : TE, (e.inn c).length = e.nu.nc c
  | .mk _ fs => by simp [TE.inn, TE.nu, Nu.more, TFs.nu_nc c fs]
theorem TFs.nu_nc (c : Int) : ∀ fs : TFs, (fs.inn c).length = fs.nu.nc c
  | .nil => by simp [TFs.inn, TFs.nu, Nu.zero]
  | .cons f fs => by simp [TFs.inn, TFs.nu, Nu.add, TF.nu_nc c f, TFs.nu_nc c fs]
theorem TF.nu_nc (c : Int) : ∀ f : TF, (f.inn c).length = f.nu.nc c
  | .lt _ => by simp [TF.inn, TF.nu]
  | .nm c' e => by
    simp only [TF.inn, TF.nu, Nu.name, List.length_append, TE.nu_nc c e]
    split <;> simp
  | .br _ es => by simp [TF.inn, TF.nu, Nu.brk, TEs.nu_nc c es]
theorem TEs.nu_nc (c : Int) : ∀ es : TEs, (es.inn c).length = es.nu.nc c
  | .nil => by simp [TEs.inn, TEs.nu, Nu.zero]
  | .cons e es => by simp [TEs.inn, TEs.nu, Nu.add, Nu.more, TE.nu_nc c e, TEs.nu_nc c es]
end
mutual
theorem TE.nu_sn : ∀ e : TE, e.st.length = e.nu.sn
  | .mk _ fs => by simp [TE.st, TE.nu, Nu.more, TFs.nu_sn fs]
theorem TFs.nu_sn : ∀ fs : TFs, fs.st.length = fs.nu.sn
  | .nil => by simp [TFs.st, TFs.nu, Nu.zero]
  | .cons f fs => by simp [TFs.st, TFs.nu, Nu.add, TF.nu_sn f, TFs.nu_sn fs]
theorem TF.nu_sn : ∀ f : TF, f.st.length = f.nu.sn
  | .lt _ => by simp [TF.st, TF.nu]
  | .nm c e => by simp [TF.st, TF.nu, Nu.name, TE.nu_sn e, TE.nu_nc c e]
  | .br _ es => by simp [TF.st, TF.nu, Nu.brk, TEs.nu_sn es]
theorem TEs.nu_sn : ∀ es : TEs, es.st.length = es.nu.sn
  | .nil => by simp [TEs.st, TEs.nu, Nu.zero]
  | .cons e es => by simp [TEs.st, TEs.nu, Nu.add, Nu.more, TE.nu_sn e, TEs.nu_sn es]
end
section
variable {s : ByteArray}
theorem let_no {c : Int} {L : List Int} (h : cL c = false) : ((c :: L).filter fun c => cL c) = L.filter fun c => cL c := List.filter_cons_of_neg (by simpa using h)
theorem nm_let {c : Int} (h : cN c = true) : cL c = false := by
  have hv : 65 ≤ c ∧ c ≤ 90 := by simpa [cN] using h
  simp [cL]; omega
theorem op_let {c : Int} (h : cO c = true) : cL c = false := by
  have := cO_vals h
  simp [cL]; omega
theorem cl_let (c : Int) : cL (cC c) = false := by
  rcases cC_vals c with h | h | h | h | h <;> rw [h] <;> decide
mutual
theorem TE.nu_wl : ∀ (e : TE) (x : Nat), e.ok s x → (e.rd.filter fun c => cL c).length = e.nu.wl
  | .mk d fs, x, h => by
    simp only [TE.ok] at h
    obtain ⟨hd, a, _, h2⟩ := h
    simp only [TE.rd, TE.nu, Nu.more]
    rw [let_no (by simp [cL]; omega), TFs.nu_wl fs _ h2]
theorem TFs.nu_wl : ∀ (fs : TFs) (l : List Nat), fs.ok s l → (fs.rd.filter fun c => cL c).length = fs.nu.wl
  | .nil, l, h => by simp [TFs.rd, TFs.nu, Nu.zero]
  | .cons f fs, l, h => by
    simp only [TFs.ok] at h
    obtain ⟨p, q, _, h1, h2⟩ := h
    simp only [TFs.rd, TFs.nu, Nu.add, List.filter_append, List.length_append]
    rw [TF.nu_wl f p h1, TFs.nu_wl fs q h2]
theorem TF.nu_wl : ∀ (f : TF) (p : Nat), f.ok s p → (f.rd.filter fun c => cL c).length = f.nu.wl
  | .lt c, p, h => by
    simp only [TF.ok] at h
    obtain ⟨h1, h2⟩ := h
    simp only [TF.rd, TF.nu]
    rw [List.filter_cons_of_pos (by rw [h2]; simpa using h1)]; rfl
  | .nm c e, p, h => by
    simp only [TF.ok] at h
    obtain ⟨h1, h2, h3⟩ := h
    simp only [TF.rd, TF.nu, Nu.name]
    rw [let_no (by rw [h2]; exact nm_let h1), let_no (by decide), List.filter_append, List.length_append, TE.nu_wl e _ h3]
    simp [cL]
  | .br o es, p, h => by
    simp only [TF.ok] at h
    obtain ⟨h1, h2, _, h3⟩ := h
    simp only [TF.rd, TF.nu, Nu.brk]
    rw [let_no (by rw [h2]; exact op_let h1), List.filter_append, List.length_append]
    have hcl : ([cC o].filter fun c => cL c) = [] := by rw [let_no (cl_let o)]; rfl
    rw [hcl]
    cases es with
    | nil => simp [TEs.rd, TEs.nu, Nu.zero]
    | cons e es =>
      simp only [TEs.ok] at h3
      simp only [TEs.rd, TEs.nu, Nu.add, Nu.more, List.filter_append, List.length_append, List.length_nil]
      rw [TE.nu_wl e _ h3.1, TEs.nu_wl es _ h3.2]; rfl
theorem TEs.nu_wl : ∀ (es : TEs) (x : Nat), es.ok s x → (es.rt.filter fun c => cL c).length = es.nu.wl
  | .nil, x, h => by simp [TEs.rt, TEs.nu, Nu.zero]
  | .cons e es, x, h => by
    simp only [TEs.ok] at h
    simp only [TEs.rt, TEs.nu, Nu.add, Nu.more]
    rw [let_no (by decide), List.filter_append, List.length_append, TE.nu_wl e _ h.1, TEs.nu_wl es _ h.2]
end
mutual
/-- a name that stands within is a tree wherever the name stands -/
theorem TE.inn_ok (c : Int) : ∀ (e : TE) (x : Nat) (g : TF), e.ok s x → g ∈ e.inn c → ∀ p : Nat, cN (bt s p) = true → bt s p = c → g.ok s p
  | .mk d fs, x, g, h, hg, p, hp, hc => by
    simp only [TE.ok] at h
    obtain ⟨_, a, _, h2⟩ := h
    simp only [TE.inn] at hg
    exact TFs.inn_ok c fs _ g h2 hg p hp hc
theorem TFs.inn_ok (c : Int) : ∀ (fs : TFs) (l : List Nat) (g : TF), fs.ok s l → g ∈ fs.inn c → ∀ p : Nat, cN (bt s p) = true → bt s p = c → g.ok s p
  | .nil, l, g, h, hg, p, hp, hc => by simp [TFs.inn] at hg
  | .cons f fs, l, g, h, hg, p, hp, hc => by
    simp only [TFs.ok] at h
    obtain ⟨p', q', _, h1, h2⟩ := h
    simp only [TFs.inn, List.mem_append] at hg
    rcases hg with hg | hg
    · exact TF.inn_ok c f p' g h1 hg p hp hc
    · exact TFs.inn_ok c fs q' g h2 hg p hp hc
theorem TF.inn_ok (c : Int) : ∀ (f : TF) (p' : Nat) (g : TF), f.ok s p' → g ∈ f.inn c → ∀ p : Nat, cN (bt s p) = true → bt s p = c → g.ok s p
  | .lt _, p', g, h, hg, p, hp, hc => by simp [TF.inn] at hg
  | .nm c' e, p', g, h, hg, p, hp, hc => by
    simp only [TF.ok] at h
    obtain ⟨h1, h2, h3⟩ := h
    simp only [TF.inn, List.mem_append] at hg
    rcases hg with hg | hg
    · split at hg
      · rename_i hcc
        simp at hg
        subst hg
        simp only [TF.ok]
        refine ⟨hp, by omega, ?_⟩
        rw [show bt s p = bt s p' by omega]; exact h3
      · simp at hg
    · exact TE.inn_ok c e _ g h3 hg p hp hc
  | .br o es, p', g, h, hg, p, hp, hc => by
    simp only [TF.ok] at h
    obtain ⟨_, _, _, h3⟩ := h
    simp only [TF.inn] at hg
    exact TEs.inn_ok c es _ g h3 hg p hp hc
theorem TEs.inn_ok (c : Int) : ∀ (es : TEs) (x : Nat) (g : TF), es.ok s x → g ∈ es.inn c → ∀ p : Nat, cN (bt s p) = true → bt s p = c → g.ok s p
  | .nil, x, g, h, hg, p, hp, hc => by simp [TEs.inn] at hg
  | .cons e es, x, g, h, hg, p, hp, hc => by
    simp only [TEs.ok] at h
    simp only [TEs.inn, List.mem_append] at hg
    rcases hg with hg | hg
    · exact TE.inn_ok c e x g h.1 hg p hp hc
    · exact TEs.inn_ok c es x g h.2 hg p hp hc
end
theorem TEs.del_ok : ∀ (es : TEs) (k x : Nat), es.ok s x → (es.del k).ok s x
  | .nil, k, x, h => by simp [TEs.del, TEs.ok]
  | .cons e es, 0, x, h => by simp only [TEs.ok] at h; simp only [TEs.del]; exact h.2
  | .cons e es, k + 1, x, h => by
    simp only [TEs.ok] at h
    simp only [TEs.del, TEs.ok]
    exact ⟨h.1, TEs.del_ok es k x h.2⟩
theorem okN_del {o : Int} {n : Nat} (h : 0 < ownN o (n + 1)) : okN o n := by
  unfold ownN at h
  refine ⟨fun e => ?_, fun e => ?_, fun e => ?_⟩
  · subst e; simp at h
  · subst e
    simp only [if_true] at h
    split at h <;> omega
  · subst e
    simp at h
    split at h <;> omega
mutual
/-- a step leads to a tree -/
theorem TE.st_ok : ∀ (e e' : TE) (x : Nat), e.ok s x → e' ∈ e.st → e'.ok s x
  | .mk d fs, e', x, h, he => by
    simp only [TE.st, List.mem_map] at he
    obtain ⟨fs', h1, rfl⟩ := he
    simp only [TE.ok] at h ⊢
    obtain ⟨hd, a, ha, h2⟩ := h
    exact ⟨hd, a, ha, TFs.st_ok fs fs' _ h2 h1⟩
theorem TFs.st_ok : ∀ (fs fs' : TFs) (l : List Nat), fs.ok s l → fs' ∈ fs.st → fs'.ok s l
  | .nil, fs', l, h, he => by simp [TFs.st] at he
  | .cons f fs, fs', l, h, he => by
    simp only [TFs.ok] at h
    obtain ⟨p, q, hl, h1, h2⟩ := h
    simp only [TFs.st, List.mem_append, List.mem_map] at he
    rcases he with ⟨f', g1, rfl⟩ | ⟨g, g1, rfl⟩
    · simp only [TFs.ok]; exact ⟨p, q, hl, TF.st_ok f f' p h1 g1, h2⟩
    · simp only [TFs.ok]; exact ⟨p, q, hl, h1, TFs.st_ok fs g q h2 g1⟩
theorem TF.st_ok : ∀ (f f' : TF) (p : Nat), f.ok s p → f' ∈ f.st → f'.ok s p
  | .lt _, f', p, h, he => by simp [TF.st] at he
  | .nm c e, f', p, h, he => by
    simp only [TF.ok] at h
    obtain ⟨h1, h2, h3⟩ := h
    simp only [TF.st, List.mem_append, List.mem_map] at he
    rcases he with he | ⟨e', g1, rfl⟩
    · exact TE.inn_ok c e _ f' h3 he p h1 h2.symm
    · simp only [TF.ok]; exact ⟨h1, h2, TE.st_ok e e' _ h3 g1⟩
  | .br o es, f', p, h, he => by
    simp only [TF.ok] at h
    obtain ⟨h1, h2, h3, h4⟩ := h
    simp only [TF.st, List.mem_append, List.mem_map] at he
    rcases he with ⟨k, g1, rfl⟩ | ⟨es', g1, rfl⟩
    · have hk : k < ownN o es.len := by simpa using g1
      have hk' : k < es.len := Nat.lt_of_lt_of_le hk (ownN_le _ _)
      simp only [TF.ok]
      refine ⟨h1, h2, okN_del (by rw [TEs.del_len es k hk']; omega), TEs.del_ok es k _ h4⟩
    · simp only [TF.ok]
      rw [(TEs.st_le es es' g1).2.2]
      exact ⟨h1, h2, h3, TEs.st_ok es es' _ h4 g1⟩
theorem TEs.st_ok : ∀ (es es' : TEs) (x : Nat), es.ok s x → es' ∈ es.st → es'.ok s x
  | .nil, es', x, h, he => by simp [TEs.st] at he
  | .cons e es, es', x, h, he => by
    simp only [TEs.ok] at h
    simp only [TEs.st, List.mem_append, List.mem_map] at he
    rcases he with ⟨e', g1, rfl⟩ | ⟨g, g1, rfl⟩
    · simp only [TEs.ok]; exact ⟨TE.st_ok e e' x h.1 g1, h.2⟩
    · simp only [TEs.ok]; exact ⟨h.1, TEs.st_ok es g x h.2 g1⟩
end
end
end Go.Proofs.Ytnfaiaoipeholaa
/- Trees as trees: how many steps there may be. No Go here. -/
namespace Go.Proofs.Ytnfaiaoipeholaa
mutual
/-- how many names; how many steps brackets have of their own -/
def TE.nt : TE → Nat × Nat
  | .mk _ fs => fs.nt
def TFs.nt : TFs → Nat × Nat
  | .nil => (0, 0)
  | .cons f fs => (f.nt.1 + fs.nt.1, f.nt.2 + fs.nt.2)
def TF.nt : TF → Nat × Nat
  | .lt _ => (0, 0)
  | .nm _ e => (e.nt.1 + 1, e.nt.2)
  | .br o es => (es.nt.1, ownN o es.len + es.nt.2)
def TEs.nt : TEs → Nat × Nat
  | .nil => (0, 0)
  | .cons e es => (e.nt.1 + es.nt.1, e.nt.2 + es.nt.2)
end
/-- what holds of these numbers -/
structure Nb (u : Nu) (n : Nat × Nat) : Prop where
  nc : ∀ c, u.nc c ≤ n.1
  sn : u.sn ≤ u.ht * n.1 + n.2
theorem Nb.add {u v : Nu} {n m : Nat × Nat} (h : Nb u n) (g : Nb v m) : Nb (u.add v) (n.1 + m.1, n.2 + m.2) := by
  refine ⟨fun c => by have := h.nc c; have := g.nc c; simp [Nu.add]; omega, ?_⟩
  have h1 := h.sn
  have g1 := g.sn
  have a1 : u.ht * n.1 ≤ max u.ht v.ht * n.1 := Nat.mul_le_mul_right _ (Nat.le_max_left _ _)
  have a2 : v.ht * m.1 ≤ max u.ht v.ht * m.1 := Nat.mul_le_mul_right _ (Nat.le_max_right _ _)
  simp only [Nu.add]
  rw [Nat.mul_add]
  omega
mutual
theorem TE.nb : ∀ e : TE, Nb e.nu e.nt
  | .mk _ fs => by
    have h := TFs.nb fs
    simp only [TE.nu, TE.nt]
    exact ⟨h.nc, h.sn⟩
theorem TFs.nb : ∀ fs : TFs, Nb fs.nu fs.nt
  | .nil => by simp only [TFs.nu, TFs.nt]; exact ⟨fun _ => Nat.le_refl _, by simp [Nu.zero]⟩
  | .cons f fs => by simp only [TFs.nu, TFs.nt]; exact (TF.nb f).add (TFs.nb fs)
theorem TF.nb : ∀ f : TF, Nb f.nu f.nt
  | .lt _ => by simp only [TF.nu, TF.nt]; exact ⟨fun _ => Nat.le_refl _, by simp⟩
  | .nm c e => by
    have h := TE.nb e
    simp only [TF.nu, TF.nt]
    refine ⟨fun c' => by have := h.nc c'; simp only [Nu.name]; split <;> omega, ?_⟩
    have h1 := h.sn
    have h2 := h.nc c
    simp only [Nu.name]
    have h3 : (e.nu.ht + 1) * (e.nt.1 + 1) = e.nu.ht * e.nt.1 + e.nu.ht + e.nt.1 + 1 := by
      rw [Nat.add_mul, Nat.mul_add]; omega
    omega
  | .br o es => by
    have h := TEs.nb es
    simp only [TF.nu, TF.nt]
    have h1 := h.sn
    exact ⟨h.nc, by simp only [Nu.brk]; omega⟩
theorem TEs.nb : ∀ es : TEs, Nb es.nu es.nt
  | .nil => by simp only [TEs.nu, TEs.nt]; exact ⟨fun _ => Nat.le_refl _, by simp [Nu.zero]⟩
  | .cons e es => by
    have h := TE.nb e
    have h' : Nb (e.nu.more 1) e.nt := ⟨h.nc, h.sn⟩
    simp only [TEs.nu, TEs.nt]
    exact h'.add (TEs.nb es)
end
mutual
theorem TE.sb : ∀ e : TE, 4 * e.nt.1 + 2 * e.nt.2 + 1 ≤ e.nu.sz
  | .mk _ fs => by have := TFs.sb fs; simp only [TE.nu, TE.nt, Nu.more]; omega
theorem TFs.sb : ∀ fs : TFs, 4 * fs.nt.1 + 2 * fs.nt.2 ≤ fs.nu.sz
  | .nil => by simp [TFs.nt]
  | .cons f fs => by have := TF.sb f; have := TFs.sb fs; simp only [TFs.nu, TFs.nt, Nu.add]; omega
theorem TF.sb : ∀ f : TF, 4 * f.nt.1 + 2 * f.nt.2 ≤ f.nu.sz
  | .lt _ => by simp [TF.nt]
  | .nm _ e => by have := TE.sb e; simp only [TF.nu, TF.nt, Nu.name]; omega
  | .br o es => by have := TEs.sb es; have := ownN_le o es.len; simp only [TF.nu, TF.nt, Nu.brk]; omega
theorem TEs.sb : ∀ es : TEs, 4 * es.nt.1 + 2 * es.nt.2 + 2 * es.len ≤ es.nu.sz
  | .nil => by simp [TEs.nt, TEs.len]
  | .cons e es => by have := TE.sb e; have := TEs.sb es; simp only [TEs.nu, TEs.nt, TEs.len, Nu.add, Nu.more]; omega
end
/-- a tree that is not too long and not too high has not too many steps -/
theorem TF.steps_le (f : TF) (h1 : f.rd.length ≤ 2000) (h2 : f.ht ≤ 9) : f.st.length ≤ 9999 := by
  rw [TF.nu_len] at h1
  rw [TF.nu_ht] at h2
  rw [TF.nu_sn]
  have h3 := (TF.nb f).sn
  have h4 := TF.sb f
  have h5 : f.nu.ht * f.nt.1 ≤ 9 * f.nt.1 := Nat.mul_le_mul_right _ h2
  omega
end Go.Proofs.Ytnfaiaoipeholaa
/- Texts of trees: where a bracket closes, what its elements are. No Go here. -/
namespace Go.Proofs.Ytnfaiaoipeholaa
section
variable {s t : ByteArray}
theorem mtK_plain {j : Nat} {d : Int} (h : bt t j ≠ 0) (h1 : cO (bt t j) = false) (h2 : cX (bt t j) = false) : mtD t j d = mtD t (j + 1) d := by
  rw [mtD_step (bt_lt h), if_neg (by simp [h1]), if_neg (by simp [h2])]
theorem mtK_open {j : Nat} {d : Int} (h1 : cO (bt t j) = true) : mtD t j d = mtD t (j + 1) (d + 1) := by
  rw [mtD_step (bt_lt (by intro h0; rw [h0] at h1; exact absurd h1 (by decide))), if_pos h1]
theorem mtK_close {j : Nat} {d : Int} (h2 : cX (bt t j) = true) : mtD t j d = if d - 1 = 0 then j else mtD t (j + 1) (d - 1) := by
  have h1 : cO (bt t j) = false := (close_not h2).2.2.1
  rw [mtD_step (bt_lt (by intro h0; rw [h0] at h2; exact absurd h2 (by decide))), if_neg (by simp [h1]), if_pos h2]
/-- a byte that is no bracket, no comma -/
def Pl (c : Int) : Prop := c ≠ 0 ∧ cO c = false ∧ cX c = false ∧ c ≠ 44
theorem pl_dig {d : Nat} (h : d ≤ 9) : Pl (48 + (d : Int)) := by
  refine ⟨by omega, ?_, ?_, by omega⟩
  · cases e : cO (48 + (d : Int))
    · rfl
    · have := cO_vals e; omega
  · cases e : cX (48 + (d : Int))
    · rfl
    · have := cX_vals e; omega
theorem pl_let {c : Int} (h : cL c = true) : Pl c := by
  have hv : 97 ≤ c ∧ c ≤ 122 := by simpa [cL] using h
  have := plain_not (c := c) (.inl (by simp [h]))
  exact ⟨by omega, this.1, this.2, by omega⟩
theorem pl_nam {c : Int} (h : cN c = true) : Pl c := by
  have hv : 65 ≤ c ∧ c ≤ 90 := by simpa [cN] using h
  have := plain_not (c := c) (.inl (by simp [h]))
  exact ⟨by omega, this.1, this.2, by omega⟩
theorem pl_com : cO 44 = false ∧ cX 44 = false ∧ (44 : Int) ≠ 0 := by decide
/-- over these bytes the depth comes back -/
def Bal (t : ByteArray) (L : List Int) : Prop := ∀ i (d : Int), 1 ≤ d → At t i L → mtD t i d = mtD t (i + L.length) d
theorem Bal.nil : Bal t [] := fun _ _ _ _ => rfl
theorem Bal.plain {c : Int} {L : List Int} (h : c ≠ 0) (h1 : cO c = false) (h2 : cX c = false) (g : Bal t L) : Bal t (c :: L) := fun i d hd hA => by
  have hb := hA.head
  rw [mtK_plain (by rw [hb]; exact h) (by rw [hb]; exact h1) (by rw [hb]; exact h2), g (i + 1) d hd hA.tail]
  simp only [List.length_cons]; congr 1; omega
theorem Bal.app {A B : List Int} (h : Bal t A) (g : Bal t B) : Bal t (A ++ B) := fun i d hd hA => by
  rw [h i d hd hA.left, g _ d hd hA.right]
  simp only [List.length_append]; congr 1; omega
theorem Bal.brk {o c : Int} {L : List Int} (ho : cO o = true) (hc : cX c = true) (g : Bal t L) : Bal t (o :: (L ++ [c])) := fun i d hd hA => by
  have hb := hA.head
  have hA2 := hA.tail
  have hcl : bt t ((i + 1 + L.length : Nat) : Int) = c := hA2.right.head
  rw [mtK_open (by rw [hb]; exact ho), g (i + 1) (d + 1) (by omega) hA2.left, mtK_close (by rw [hcl]; exact hc), if_neg (by omega)]
  simp only [List.length_cons, List.length_append, List.length_nil]
  rw [show d + 1 - 1 = d by omega]; congr 1; omega
mutual
theorem TE.bal : ∀ (e : TE) (x : Nat), e.ok s x → Bal t e.rd
  | .mk d fs, x, h => by
    simp only [TE.ok] at h
    obtain ⟨hd, a, _, h2⟩ := h
    simp only [TE.rd]
    have hp := pl_dig hd
    exact Bal.plain hp.1 hp.2.1 hp.2.2.1 (TFs.bal fs _ h2)
theorem TFs.bal : ∀ (fs : TFs) (l : List Nat), fs.ok s l → Bal t fs.rd
  | .nil, l, h => by simp only [TFs.rd]; exact Bal.nil
  | .cons f fs, l, h => by
    simp only [TFs.ok] at h
    obtain ⟨p, q, _, h1, h2⟩ := h
    simp only [TFs.rd]
    exact (TF.bal f p h1).app (TFs.bal fs q h2)
theorem TF.bal : ∀ (f : TF) (p : Nat), f.ok s p → Bal t f.rd
  | .lt c, p, h => by
    simp only [TF.ok] at h
    obtain ⟨h1, h2⟩ := h
    simp only [TF.rd]
    have hp := pl_let (c := c) (by rw [h2]; exact h1)
    exact Bal.plain hp.1 hp.2.1 hp.2.2.1 Bal.nil
  | .nm c e, p, h => by
    simp only [TF.ok] at h
    obtain ⟨h1, h2, h3⟩ := h
    simp only [TF.rd]
    have hp := pl_nam (c := c) (by rw [h2]; exact h1)
    exact Bal.plain hp.1 hp.2.1 hp.2.2.1 (Bal.brk (by decide) (by decide) (TE.bal e _ h3))
  | .br o es, p, h => by
    simp only [TF.ok] at h
    obtain ⟨h1, h2, _, h3⟩ := h
    have hc0 : cC o ≠ 0 := by rw [h2]; simpa [cO] using h1
    simp only [TF.rd]
    refine Bal.brk (by rw [h2]; exact h1) (cX_cC _ hc0) ?_
    cases es with
    | nil => simp only [TEs.rd]; exact Bal.nil
    | cons e es =>
      simp only [TEs.ok] at h3
      simp only [TEs.rd]
      exact (TE.bal e _ h3.1).app (TEs.bal es _ h3.2)
theorem TEs.bal : ∀ (es : TEs) (x : Nat), es.ok s x → Bal t es.rt
  | .nil, x, h => by simp only [TEs.rt]; exact Bal.nil
  | .cons e es, x, h => by
    simp only [TEs.ok] at h
    simp only [TEs.rt]
    exact Bal.plain pl_com.2.2 pl_com.1 pl_com.2.1 ((TE.bal e _ h.1).app (TEs.bal es _ h.2))
end
theorem TEs.balr (es : TEs) (x : Nat) (h : es.ok s x) : Bal t es.rd := by
  cases es with
  | nil => simp only [TEs.rd]; exact Bal.nil
  | cons e es =>
    simp only [TEs.ok] at h
    simp only [TEs.rd]
    exact (TE.bal e _ h.1).app (TEs.bal es _ h.2)
/-- a bracket closes behind what is in it -/
theorem mt_brk {o c : Int} {L : List Int} {i : Nat} (ho : cO o = true) (hc : cX c = true) (g : Bal t L) (hA : At t i (o :: (L ++ [c]))) : mt t i = i + 1 + L.length := by
  have hb := hA.head
  have hA2 := hA.tail
  have hcl : bt t ((i + 1 + L.length : Nat) : Int) = c := hA2.right.head
  unfold mt
  rw [mtK_open (by rw [hb]; exact ho), g (i + 1) (0 + 1) (by omega) hA2.left, mtK_close (by rw [hcl]; exact hc), if_pos (by omega)]

/-- the elements' spans, up to an end: from this place on, the one that is open having begun there -/
def spF (t : ByteArray) (e : Nat) : Nat → Nat → Nat → List (Nat × Nat)
  | 0, _, fr => [(fr, e)]
  | n + 1, j, fr => if e ≤ j then [(fr, e)]
    else if cO (bt t j) = true then spF t e n (mt t j + 1) fr
    else if bt t j = 44 then (fr, j) :: spF t e n (j + 1) (j + 1)
    else spF t e n (j + 1) fr
/-- the spans of what is in the bracket that opens here -/
def elS (t : ByteArray) (i : Nat) : List (Nat × Nat) := if i + 1 < mt t i then spF t (mt t i) t.size (i + 1) (i + 1) else []
/-- over these bytes nothing is cut -/
def Cut0 (t : ByteArray) (L : List Int) : Prop := ∀ e n i fr, At t i L → i + L.length ≤ e → L.length ≤ n → ∃ n', n - L.length ≤ n' ∧ spF t e n i fr = spF t e n' (i + L.length) fr
theorem Cut0.nil : Cut0 t [] := fun _ n _ _ _ _ _ => ⟨n, by simp, rfl⟩
theorem Cut0.app {A B : List Int} (h : Cut0 t A) (g : Cut0 t B) : Cut0 t (A ++ B) := fun e n i fr hA he hn => by
  simp only [List.length_append] at he hn ⊢
  obtain ⟨n1, q1, q2⟩ := h e n i fr hA.left (by omega) (by omega)
  obtain ⟨n2, q3, q4⟩ := g e n1 (i + A.length) fr hA.right (by omega) (by omega)
  exact ⟨n2, by omega, by rw [q2, q4]; congr 1; omega⟩
theorem Cut0.plain {c : Int} {L : List Int} (h : Pl c) (g : Cut0 t L) : Cut0 t (c :: L) := fun e n i fr hA he hn => by
  simp only [List.length_cons] at he hn ⊢
  obtain ⟨m, rfl⟩ : ∃ m, n = m + 1 := ⟨n - 1, by omega⟩
  obtain ⟨n2, q3, q4⟩ := g e m (i + 1) fr hA.tail (by omega) (by omega)
  have hb := hA.head
  refine ⟨n2, by omega, ?_⟩
  conv => lhs; unfold spF
  rw [if_neg (by omega), if_neg (by rw [hb, h.2.1]; decide), if_neg (by rw [hb]; exact h.2.2.2), q4]
  congr 1; omega
theorem Cut0.brk {o c : Int} {L : List Int} (ho : cO o = true) (hc : cX c = true) (g : Bal t L) : Cut0 t (o :: (L ++ [c])) := fun e n i fr hA he hn => by
  simp only [List.length_cons, List.length_append, List.length_nil] at he hn ⊢
  obtain ⟨m, rfl⟩ : ∃ m, n = m + 1 := ⟨n - 1, by omega⟩
  have hb := hA.head
  refine ⟨m, by omega, ?_⟩
  conv => lhs; unfold spF
  rw [if_neg (by omega), if_pos (by rw [hb]; exact ho), mt_brk ho hc g hA]
  congr 1; omega
mutual
theorem TE.cut : ∀ (e : TE) (x : Nat), e.ok s x → Cut0 t e.rd
  | .mk d fs, x, h => by
    simp only [TE.ok] at h
    obtain ⟨hd, a, _, h2⟩ := h
    simp only [TE.rd]
    exact Cut0.plain (pl_dig hd) (TFs.cut fs _ h2)
theorem TFs.cut : ∀ (fs : TFs) (l : List Nat), fs.ok s l → Cut0 t fs.rd
  | .nil, l, h => by simp only [TFs.rd]; exact Cut0.nil
  | .cons f fs, l, h => by
    simp only [TFs.ok] at h
    obtain ⟨p, q, _, h1, h2⟩ := h
    simp only [TFs.rd]
    exact (TF.cut f p h1).app (TFs.cut fs q h2)
theorem TF.cut : ∀ (f : TF) (p : Nat), f.ok s p → Cut0 t f.rd
  | .lt c, p, h => by
    simp only [TF.ok] at h
    obtain ⟨h1, h2⟩ := h
    simp only [TF.rd]
    exact Cut0.plain (pl_let (by rw [h2]; exact h1)) Cut0.nil
  | .nm c e, p, h => by
    simp only [TF.ok] at h
    obtain ⟨h1, h2, h3⟩ := h
    simp only [TF.rd]
    exact Cut0.plain (pl_nam (by rw [h2]; exact h1)) (Cut0.brk (by decide) (by decide) (TE.bal e _ h3))
  | .br o es, p, h => by
    simp only [TF.ok] at h
    obtain ⟨h1, h2, _, h3⟩ := h
    have hc0 : cC o ≠ 0 := by rw [h2]; simpa [cO] using h1
    simp only [TF.rd]
    exact Cut0.brk (by rw [h2]; exact h1) (cX_cC _ hc0) (TEs.balr es _ h3)
end
/-- the spans of elements -/
def TEs.sp : TEs → Nat → List (Nat × Nat)
  | .nil, _ => []
  | .cons e es, i => (i, i + e.rd.length) :: es.sp (i + e.rd.length + 1)
theorem TEs.spF_ : ∀ (es : TEs) (e : TE) (x n i : Nat), e.ok s x → es.ok s x → At t i (e.rd ++ es.rt) → (e.rd ++ es.rt).length ≤ n → spF t (i + (e.rd ++ es.rt).length) n i i = (i, i + e.rd.length) :: es.sp (i + e.rd.length + 1)
  | .nil, e, x, n, i, h1, h2, hA, hn => by
    simp only [TEs.rt, List.append_nil, TEs.sp] at hA hn ⊢
    obtain ⟨n1, q1, q2⟩ := TE.cut (t := t) e x h1 (i + e.rd.length) n i i hA (Nat.le_refl _) hn
    rw [q2]
    cases n1 with
    | zero => rfl
    | succ n1 => unfold spF; rw [if_pos (Nat.le_refl _)]
  | .cons e2 es, e, x, n, i, h1, h2, hA, hn => by
    simp only [TEs.ok] at h2
    simp only [TEs.rt, List.length_append, List.length_cons, TEs.sp] at hA hn ⊢
    have hA2 := hA.right
    have hb : bt t ((i + e.rd.length : Nat) : Int) = 44 := hA2.head
    obtain ⟨n1, q1, q2⟩ := TE.cut (t := t) e x h1 (i + (e.rd.length + (e2.rd.length + es.rt.length + 1))) n i i hA.left (by omega) (by omega)
    have ih := TEs.spF_ es e2 x (n1 - 1) (i + e.rd.length + 1) h2.1 h2.2 hA2.tail (by simp only [List.length_append]; omega)
    obtain ⟨n2, hn2⟩ : ∃ n2, n1 = n2 + 1 := ⟨n1 - 1, by omega⟩
    subst hn2
    rw [q2]
    conv => lhs; unfold spF
    rw [if_neg (by omega), if_neg (by rw [hb]; decide), if_pos hb]
    simp only [List.length_append, Nat.add_sub_cancel] at ih
    rw [show i + (e.rd.length + (e2.rd.length + es.rt.length + 1)) = i + e.rd.length + 1 + (e2.rd.length + es.rt.length) by omega, ih]
/-- the spans of a bracket's elements -/
theorem elS_brk {o c : Int} {es : TEs} {i x : Nat} (ho : cO o = true) (hc : cX c = true) (h : es.ok s x) (hA : At t i (o :: (es.rd ++ [c]))) : elS t i = es.sp (i + 1) := by
  have hm := mt_brk ho hc (TEs.balr (t := t) es x h) hA
  unfold elS
  rw [hm]
  cases es with
  | nil => simp [TEs.rd, TEs.sp]
  | cons e es =>
    simp only [TEs.ok] at h
    have hrd : (TEs.cons e es).rd = e.rd ++ es.rt := by simp only [TEs.rd]
    have hpos := TE.rd_pos e
    have hl : (e.rd ++ es.rt).length = e.rd.length + es.rt.length := by simp
    rw [hrd] at hA
    rw [if_pos (by rw [hrd]; omega), hrd]
    simp only [TEs.sp]
    have hcl : bt t ((i + 1 + (e.rd ++ es.rt).length : Nat) : Int) = c := hA.tail.right.head
    have hlt := bt_lt (s := t) (p := i + 1 + (e.rd ++ es.rt).length) (by rw [hcl]; intro h0; rw [h0] at hc; exact absurd hc (by decide))
    exact TEs.spF_ es e x t.size (i + 1) h.1 h.2 hA.tail.left (by omega)
end
end Go.Proofs.Ytnfaiaoipeholaa
/- Texts of trees: the steps. No Go here. -/
namespace Go.Proofs.Ytnfaiaoipeholaa
section
variable {s t : ByteArray}
theorem seg_At : ∀ {L : List Int} {i : Nat}, At t i L → seg t i (i + L.length) = L
  | [], i, _ => by simp [seg_self]
  | x :: L, i, h => by
    have ih := seg_At h.tail
    rw [seg_app (j := i + 1) (by omega) (by simp), seg_one, h.head, show i + (x :: L).length = i + 1 + L.length by simp; omega, ih]; rfl
/-- what stands behind -/
theorem seg_rest {L : List Int} {i : Nat} (h : At t i L) (hz : i + L.length ≤ t.size) : seg t i t.size = L ++ seg t (i + L.length) t.size := by
  rw [seg_app (j := i + L.length) (by omega) hz, seg_At h]
theorem seg_front {L : List Int} {i : Nat} (h : At t i L) : seg t 0 (i + L.length) = seg t 0 i ++ L := by
  rw [seg_app (j := i) (by omega) (by omega), seg_At h]
/-- elements with commas between -/
def jnS (t : ByteArray) : List (Nat × Nat) → List Int
  | [] => []
  | [p] => seg t p.1 p.2
  | p :: q :: r => seg t p.1 p.2 ++ (44 :: jnS t (q :: r))
/-- the list that opens here without an element -/
def woS (t : ByteArray) (i k : Nat) : List Int := seg t 0 (i + 1) ++ (jnS t ((elS t i).eraseIdx k) ++ seg t (mt t i) t.size)
/-- places of a name -/
def nmS (t : ByteArray) (c : Int) (i n : Nat) : List Nat := (List.range' i n).filter fun j => decide (bt t (j : Nat) = c)
/-- the name here, replaced by each of the same name within -/
def wnS (t : ByteArray) (i : Nat) : List (List Int) := (nmS t (bt t i) (i + 2) (mt t (i + 1) - (i + 2))).map fun j => seg t 0 i ++ (seg t j (mt t (j + 1) + 1) ++ seg t (mt t (i + 1) + 1) t.size)
/-- the steps at a place -/
def stS (t : ByteArray) (i : Nat) : List (List Int) :=
  if cN (bt t i) = true then wnS t i
  else if bt t i = 91 ∧ (elS t i).length = 1 then [woS t i 0]
  else if bt t i = 123 ∨ (bt t i = 60 ∧ 1 < (elS t i).length) then (List.range (elS t i).length).map (woS t i)
  else []
def rgS (t : ByteArray) (i n : Nat) : List (List Int) := (List.range' i n).flatMap (stS t)
theorem rgS_add (t : ByteArray) (i n m : Nat) : rgS t i (n + m) = rgS t i n ++ rgS t (i + n) m := by
  unfold rgS
  rw [← List.range'_append_1, List.flatMap_append]
theorem rgS_one (t : ByteArray) (i : Nat) : rgS t i 1 = stS t i := by simp [rgS]
theorem nmS_add (t : ByteArray) (c : Int) (i n m : Nat) : nmS t c i (n + m) = nmS t c i n ++ nmS t c (i + n) m := by
  unfold nmS
  rw [← List.range'_append_1, List.filter_append]
theorem nmS_one (t : ByteArray) (c : Int) (i : Nat) : nmS t c i 1 = if bt t i = c then [i] else [] := by
  unfold nmS
  simp only [List.range'_one]
  by_cases h : bt t i = c
  · rw [if_pos h, List.filter_cons_of_pos (by simpa using h)]; rfl
  · rw [if_neg h, List.filter_cons_of_neg (by simpa using h)]; rfl
/-- no step here -/
theorem stS_no {i : Nat} (h1 : cN (bt t i) = false) (h2 : bt t i ≠ 91) (h3 : bt t i ≠ 123) (h4 : bt t i ≠ 60) : stS t i = [] := by
  unfold stS
  rw [if_neg (by simp [h1]), if_neg (fun h => h2 h.1), if_neg (fun h => by rcases h with h | h; exact h3 h; exact h4 h.1)]
theorem dig_no {d : Nat} (h : d ≤ 9) : cN (48 + (d : Int)) = false ∧ (48 + (d : Int)) ≠ 91 ∧ (48 + (d : Int)) ≠ 123 ∧ (d ≤ 9) := ⟨by simp [cN]; omega, by omega, by omega, h⟩
theorem let_nn {c : Int} (h : cL c = true) : cN c = false ∧ c ≠ 91 ∧ c ≠ 123 ∧ c ≠ 60 := by
  have hv : 97 ≤ c ∧ c ≤ 122 := by simpa [cL] using h
  exact ⟨by simp [cN]; omega, by omega, by omega, by omega⟩
theorem cls_no {c : Int} (h : cX c = true) : cN c = false ∧ c ≠ 91 ∧ c ≠ 123 ∧ c ≠ 60 := by
  rcases cX_vals h with rfl | rfl | rfl | rfl <;> decide
/-- the names of a kind in a text, with their brackets -/
def inS (t : ByteArray) (c : Int) (i n : Nat) : List (List Int) := (nmS t c i n).map fun j => seg t j (mt t (j + 1) + 1)
theorem inS_add (t : ByteArray) (c : Int) (i n m : Nat) : inS t c i (n + m) = inS t c i n ++ inS t c (i + n) m := by
  unfold inS; rw [nmS_add, List.map_append]
theorem inS_skip {c : Int} {i : Nat} (h : bt t i ≠ c) : inS t c i 1 = [] := by
  unfold inS; rw [nmS_one, if_neg h]; rfl
theorem mt_nm {c : Int} {e : TE} {i x : Nat} (h : e.ok s x) (hA : At t i (c :: 40 :: (e.rd ++ [41]))) : mt t (i + 1) = i + 2 + e.rd.length := by
  rw [mt_brk (by decide) (by decide) (TE.bal (t := t) e x h) hA.tail]
mutual
theorem TE.inS_ {c : Int} (hc : cN c = true) : ∀ (e : TE) (x i : Nat), e.ok s x → At t i e.rd → inS t c i e.rd.length = (e.inn c).map TF.rd
  | .mk d fs, x, i, h, hA => by
    simp only [TE.ok] at h
    obtain ⟨hd, a, _, h2⟩ := h
    simp only [TE.rd, TE.inn, List.length_cons] at hA ⊢
    have hv : 65 ≤ c ∧ c ≤ 90 := by simpa [cN] using hc
    rw [Nat.add_comm, inS_add, inS_skip (by rw [hA.head]; omega), TFs.inS_ hc fs _ (i + 1) h2 hA.tail]; rfl
theorem TFs.inS_ {c : Int} (hc : cN c = true) : ∀ (fs : TFs) (l : List Nat) (i : Nat), fs.ok s l → At t i fs.rd → inS t c i fs.rd.length = (fs.inn c).map TF.rd
  | .nil, l, i, h, hA => by simp [TFs.rd, TFs.inn, inS, nmS]
  | .cons f fs, l, i, h, hA => by
    simp only [TFs.ok] at h
    obtain ⟨p, q, _, h1, h2⟩ := h
    simp only [TFs.rd, TFs.inn, List.length_append, List.map_append] at hA ⊢
    rw [inS_add, TF.inS_ hc f p i h1 hA.left, TFs.inS_ hc fs q _ h2 hA.right]
theorem TF.inS_ {c : Int} (hc : cN c = true) : ∀ (f : TF) (p i : Nat), f.ok s p → At t i f.rd → inS t c i f.rd.length = (f.inn c).map TF.rd
  | .lt c', p, i, h, hA => by
    simp only [TF.ok] at h
    obtain ⟨h1, h2⟩ := h
    simp only [TF.rd, TF.inn] at hA ⊢
    have hv : 65 ≤ c ∧ c ≤ 90 := by simpa [cN] using hc
    have hw : 97 ≤ bt s p ∧ bt s p ≤ 122 := by simpa [cL] using h1
    exact inS_skip (by rw [hA.head]; omega)
  | .nm c' e, p, i, h, hA => by
    simp only [TF.ok] at h
    obtain ⟨h1, h2, h3⟩ := h
    have hm := mt_nm h3 (by simpa only [TF.rd] using hA)
    have hsg := seg_At hA
    simp only [TF.rd, TF.inn, List.map_append] at hA ⊢
    have hv : 65 ≤ c ∧ c ≤ 90 := by simpa [cN] using hc
    have hl : (c' :: 40 :: (e.rd ++ [41])).length = 1 + (1 + (e.rd.length + 1)) := by simp; omega
    have h41 : bt t ((i + 1 + 1 + e.rd.length : Nat) : Int) = 41 := hA.tail.tail.right.head
    rw [hl, inS_add, inS_add, inS_add, inS_skip (i := i + 1) (by rw [hA.tail.head]; omega), TE.inS_ hc e _ (i + 1 + 1) h3 hA.tail.tail.left, inS_skip (i := i + 1 + 1 + e.rd.length) (by rw [h41]; omega)]
    have hfst : inS t c i 1 = ((if c' = c then [TF.nm c' e] else []) : List TF).map TF.rd := by
      unfold inS
      rw [nmS_one, hA.head]
      by_cases hcc : c' = c
      · rw [if_pos hcc, if_pos hcc]
        simp only [List.map_cons, List.map_nil]
        rw [hm]
        simp only [TF.rd] at hsg
        rw [show i + 2 + e.rd.length + 1 = i + (c' :: 40 :: (e.rd ++ [41])).length by rw [hl]; omega, hsg]
        simp only [TF.rd]
      · rw [if_neg hcc, if_neg hcc]; rfl
    rw [hfst]; simp
  | .br o es, p, i, h, hA => by
    simp only [TF.ok] at h
    obtain ⟨h1, h2, _, h3⟩ := h
    have hc0 : cC o ≠ 0 := by rw [h2]; simpa [cO] using h1
    simp only [TF.rd, TF.inn] at hA ⊢
    have hv : 65 ≤ c ∧ c ≤ 90 := by simpa [cN] using hc
    have hov := cO_vals h1
    have hcv := cC_vals o
    have hl : (o :: (es.rd ++ [cC o])).length = 1 + (es.rd.length + 1) := by simp; omega
    have hcl : bt t ((i + 1 + es.rd.length : Nat) : Int) = cC o := hA.tail.right.head
    have hes : inS t c (i + 1) es.rd.length = (es.inn c).map TF.rd := by
      have hA2 := hA.tail.left
      cases es with
      | nil => simp [TEs.rd, TEs.inn, inS, nmS]
      | cons e es =>
        simp only [TEs.ok] at h3
        simp only [TEs.rd, TEs.inn, List.length_append, List.map_append] at hA2 ⊢
        rw [inS_add, TE.inS_ hc e _ _ h3.1 hA2.left, TEs.inS_ hc es _ _ h3.2 hA2.right]
    rw [hl, inS_add, inS_add, inS_skip (by rw [hA.head]; omega), hes, inS_skip (by rw [hcl]; omega)]; simp
theorem TEs.inS_ {c : Int} (hc : cN c = true) : ∀ (es : TEs) (x i : Nat), es.ok s x → At t i es.rt → inS t c i es.rt.length = (es.inn c).map TF.rd
  | .nil, x, i, h, hA => by simp [TEs.rt, TEs.inn, inS, nmS]
  | .cons e es, x, i, h, hA => by
    simp only [TEs.ok] at h
    simp only [TEs.rt, TEs.inn, List.length_cons, List.length_append, List.map_append] at hA ⊢
    have hv : 65 ≤ c ∧ c ≤ 90 := by simpa [cN] using hc
    rw [show e.rd.length + es.rt.length + 1 = 1 + (e.rd.length + es.rt.length) by omega, inS_add, inS_add, inS_skip (by rw [hA.head]; omega), TE.inS_ hc e _ _ h.1 hA.tail.left, TEs.inS_ hc es _ _ h.2 hA.tail.right]; rfl
end
end
end Go.Proofs.Ytnfaiaoipeholaa
/- Texts of trees: the steps of the text are those of the tree. No Go here. -/
namespace Go.Proofs.Ytnfaiaoipeholaa
section
variable {s t : ByteArray}
/-- a text with a piece in it -/
def pcS (t : ByteArray) (i j : Nat) (L : List Int) : List Int := seg t 0 i ++ (L ++ seg t j t.size)
/-- elements' spans, joined -/
theorem jnS_rt : ∀ (es : TEs) (e : TE) (i : Nat), At t i (e.rd ++ es.rt) → jnS t ((TEs.cons e es).sp i) = e.rd ++ es.rt
  | .nil, e, i, hA => by
    simp only [TEs.rt, List.append_nil] at hA
    simp only [TEs.sp, jnS, TEs.rt, List.append_nil]
    exact seg_At hA
  | .cons e2 es, e, i, hA => by
    simp only [TEs.rt] at hA
    have ih := jnS_rt es e2 (i + e.rd.length + 1) hA.right.tail
    simp only [TEs.sp] at ih ⊢
    simp only [jnS, TEs.rt]
    rw [seg_At hA.left, ih]
theorem jnS_rd (es : TEs) (i : Nat) (hA : At t i es.rd) : jnS t (es.sp i) = es.rd := by
  cases es with
  | nil => simp [TEs.sp, jnS, TEs.rd]
  | cons e es =>
    simp only [TEs.rd] at hA ⊢
    exact jnS_rt es e i hA
theorem sp_len : ∀ (es : TEs) (i : Nat), (es.sp i).length = es.len
  | .nil, i => by simp [TEs.sp, TEs.len]
  | .cons e es, i => by simp [TEs.sp, TEs.len, sp_len es]
/-- with commas ahead -/
def jtS (t : ByteArray) : List (Nat × Nat) → List Int
  | [] => []
  | p :: r => 44 :: (seg t p.1 p.2 ++ jtS t r)
theorem jnS_cons (p : Nat × Nat) : ∀ r, jnS t (p :: r) = seg t p.1 p.2 ++ jtS t r
  | [] => by simp [jnS, jtS]
  | q :: r => by simp only [jnS, jtS]; rw [jnS_cons q r]
theorem jtS_del : ∀ (es : TEs) (i k : Nat), At t i es.rt → jtS t ((es.sp (i + 1)).eraseIdx k) = (es.del k).rt
  | .nil, i, k, hA => by simp [TEs.sp, TEs.del, TEs.rt, jtS]
  | .cons e es, i, 0, hA => by
    simp only [TEs.rt] at hA
    have h0 : jtS t (es.sp (i + 1 + e.rd.length + 1)) = es.rt := by
      have := jtS_all es (i + 1 + e.rd.length) hA.tail.right
      exact this
    simp only [TEs.sp, List.eraseIdx_cons_zero, TEs.del]
    exact h0
  | .cons e es, i, k + 1, hA => by
    simp only [TEs.rt] at hA
    have ih := jtS_del es (i + 1 + e.rd.length) k hA.tail.right
    simp only [TEs.sp, List.eraseIdx_cons_succ, TEs.del, TEs.rt, jtS]
    rw [seg_At hA.tail.left, ih]
where
  jtS_all : ∀ (es : TEs) (i : Nat), At t i es.rt → jtS t (es.sp (i + 1)) = es.rt
  | .nil, i, hA => by simp [TEs.sp, TEs.rt, jtS]
  | .cons e es, i, hA => by
    simp only [TEs.rt] at hA
    have ih := jtS_all es (i + 1 + e.rd.length) hA.tail.right
    simp only [TEs.sp, TEs.rt, jtS]
    rw [seg_At hA.tail.left, ih]
theorem jnS_del (es : TEs) (i k : Nat) (hA : At t i es.rd) : jnS t ((es.sp i).eraseIdx k) = (es.del k).rd := by
  cases es with
  | nil => simp [TEs.sp, TEs.del, TEs.rd, jnS]
  | cons e es =>
    simp only [TEs.rd] at hA
    cases k with
    | zero =>
      simp only [TEs.sp, List.eraseIdx_cons_zero, TEs.del]
      cases es with
      | nil => simp [TEs.sp, TEs.rd, jnS]
      | cons e2 es =>
        simp only [TEs.rt] at hA
        exact jnS_rd _ _ (by simp only [TEs.rd]; exact hA.right.tail)
    | succ k =>
      simp only [TEs.sp, List.eraseIdx_cons_succ, TEs.del, TEs.rd]
      rw [jnS_cons, seg_At hA.left, jtS_del es (i + e.rd.length) k hA.right]
/-- a bracket's own steps -/
theorem woS_brk {o c : Int} {es : TEs} {i k x : Nat} (ho : cO o = true) (hc : cX c = true) (h : es.ok s x) (hA : At t i (o :: (es.rd ++ [c]))) (hz : i + (o :: (es.rd ++ [c])).length ≤ t.size) :
    woS t i k = pcS t i (i + (o :: (es.rd ++ [c])).length) (o :: ((es.del k).rd ++ [c])) := by
  have hm := mt_brk ho hc (TEs.balr (t := t) es x h) hA
  have hcl : At t (i + 1 + es.rd.length) [c] := hA.tail.right
  have hl : (o :: (es.rd ++ [c])).length = es.rd.length + 2 := by simp
  unfold woS pcS
  rw [elS_brk ho hc h hA, jnS_del es (i + 1) k hA.tail.left, hm, seg_rest hcl (by simp; omega)]
  have h1 : seg t 0 (i + 1) = seg t 0 i ++ [o] := by
    have hh : At t i [o] := At.cons hA.head (At.nil _)
    have := seg_front hh
    simpa using this
  rw [h1, show i + 1 + es.rd.length + [c].length = i + (o :: (es.rd ++ [c])).length by simp; omega]
  simp
theorem pc_left {A B C : List Int} {i : Nat} (hA : At t i (A ++ B)) (hz : i + (A ++ B).length ≤ t.size) : pcS t i (i + A.length) C = pcS t i (i + (A ++ B).length) (C ++ B) := by
  unfold pcS
  rw [seg_rest hA.right (by simp at hz; omega), show i + A.length + B.length = i + (A ++ B).length by simp; omega]
  simp
theorem pc_right {A C : List Int} {i j : Nat} (hA : At t i A) : pcS t (i + A.length) j C = pcS t i j (A ++ C) := by
  unfold pcS
  rw [seg_front hA]; simp
mutual
theorem TE.stS_ : ∀ (e : TE) (x i : Nat), e.ok s x → At t i e.rd → i + e.rd.length ≤ t.size → rgS t i e.rd.length = e.st.map fun e' => pcS t i (i + e.rd.length) e'.rd
  | .mk d fs, x, i, h, hA, hz => by
    simp only [TE.ok] at h
    obtain ⟨hd, a, _, h2⟩ := h
    simp only [TE.rd, TE.st, List.length_cons, List.map_map] at hA hz ⊢
    have hno := dig_no hd
    rw [show fs.rd.length + 1 = 1 + fs.rd.length by omega, rgS_add, rgS_one, stS_no (by rw [hA.head]; exact hno.1) (by rw [hA.head]; exact hno.2.1) (by rw [hA.head]; exact hno.2.2.1) (by rw [hA.head]; omega), TFs.stS_ fs _ (i + 1) h2 hA.tail (by omega), List.nil_append]
    refine List.map_congr_left (fun fs' _ => ?_)
    simp only [Function.comp, TE.rd]
    have := pc_right (t := t) (j := i + 1 + fs.rd.length) (C := fs'.rd) (A := [48 + (d : Int)]) (At.cons hA.head (At.nil _))
    simp only [List.length_cons, List.length_nil, Nat.zero_add, List.cons_append, List.nil_append] at this
    rw [this]; congr 1; omega
theorem TFs.stS_ : ∀ (fs : TFs) (l : List Nat) (i : Nat), fs.ok s l → At t i fs.rd → i + fs.rd.length ≤ t.size → rgS t i fs.rd.length = fs.st.map fun fs' => pcS t i (i + fs.rd.length) fs'.rd
  | .nil, l, i, h, hA, hz => by simp [TFs.rd, TFs.st, rgS]
  | .cons f fs, l, i, h, hA, hz => by
    simp only [TFs.ok] at h
    obtain ⟨p, q, _, h1, h2⟩ := h
    simp only [TFs.rd] at hA hz
    have hz' : i + (f.rd.length + fs.rd.length) ≤ t.size := by simpa using hz
    simp only [TFs.rd, TFs.st, List.length_append, List.map_append, List.map_map]
    rw [rgS_add, TF.stS_ f p i h1 hA.left (by omega), TFs.stS_ fs q (i + f.rd.length) h2 hA.right (by omega)]
    congr 1
    · refine List.map_congr_left (fun f' _ => ?_)
      simp only [Function.comp, TFs.rd]
      rw [pc_left hA hz]; simp
    · refine List.map_congr_left (fun fs' _ => ?_)
      simp only [Function.comp, TFs.rd]
      rw [pc_right hA.left]; congr 1; omega
theorem TF.stS_ : ∀ (f : TF) (p i : Nat), f.ok s p → At t i f.rd → i + f.rd.length ≤ t.size → rgS t i f.rd.length = f.st.map fun f' => pcS t i (i + f.rd.length) f'.rd
  | .lt c, p, i, h, hA, hz => by
    simp only [TF.ok] at h
    obtain ⟨h1, h2⟩ := h
    simp only [TF.rd, TF.st] at hA hz ⊢
    have hno := let_nn (c := c) (by rw [h2]; exact h1)
    have hb := hA.head
    show rgS t i 1 = _
    rw [rgS_one, stS_no (by rw [hb]; exact hno.1) (by rw [hb]; exact hno.2.1) (by rw [hb]; exact hno.2.2.1) (by rw [hb]; exact hno.2.2.2)]; rfl
  | .nm c e, p, i, h, hA, hz => by
    simp only [TF.ok] at h
    obtain ⟨h1, h2, h3⟩ := h
    have hcN : cN c = true := by rw [h2]; exact h1
    simp only [TF.rd] at hA hz
    have hm := mt_nm h3 hA
    have hl : (c :: 40 :: (e.rd ++ [41])).length = 1 + (1 + (e.rd.length + 1)) := by simp; omega
    have h41 : bt t ((i + 1 + 1 + e.rd.length : Nat) : Int) = 41 := hA.tail.tail.right.head
    have h40 : bt t ((i + 1 : Nat) : Int) = 40 := hA.tail.head
    have hb := hA.head
    simp only [TF.rd, TF.st, List.map_append, List.map_map]
    rw [hl] at hz ⊢
    rw [rgS_add, rgS_add, rgS_add, rgS_one, rgS_one, rgS_one, stS_no (i := i + 1) (by rw [h40]; decide) (by rw [h40]; decide) (by rw [h40]; decide) (by rw [h40]; decide), stS_no (i := i + 1 + 1 + e.rd.length) (by rw [h41]; decide) (by rw [h41]; decide) (by rw [h41]; decide) (by rw [h41]; decide), TE.stS_ e _ (i + 1 + 1) h3 hA.tail.tail.left (by omega)]
    simp only [List.nil_append, List.append_nil]
    congr 1
    · unfold stS
      rw [if_pos (by rw [hb]; exact hcN)]
      unfold wnS
      rw [hb, hm, show i + 2 + e.rd.length - (i + 2) = e.rd.length by omega]
      have hin := TE.inS_ (t := t) hcN e _ (i + 2) h3 hA.tail.tail.left
      unfold inS at hin
      have : (nmS t c (i + 2) e.rd.length).map (fun j => seg t 0 i ++ (seg t j (mt t (j + 1) + 1) ++ seg t (i + 2 + e.rd.length + 1) t.size)) = ((nmS t c (i + 2) e.rd.length).map fun j => seg t j (mt t (j + 1) + 1)).map fun L => pcS t i (i + (1 + (1 + (e.rd.length + 1)))) L := by
        rw [List.map_map]
        refine List.map_congr_left (fun j _ => ?_)
        simp only [Function.comp, pcS]
        rw [show i + 2 + e.rd.length + 1 = i + (1 + (1 + (e.rd.length + 1))) by omega]
      rw [this, hin, List.map_map]; rfl
    · refine List.map_congr_left (fun e' _ => ?_)
      simp only [Function.comp, TF.rd]
      have hA3 : At t (i + 1 + 1) (e.rd ++ [41]) := hA.tail.tail
      rw [pc_left hA3 (by simp; omega)]
      have := pc_right (t := t) (j := i + 1 + 1 + (e.rd ++ [41]).length) (C := e'.rd ++ [41]) (A := [c, 40]) (At.cons hb (At.cons h40 (At.nil _)))
      simp only [List.length_cons, List.length_nil, Nat.zero_add, List.cons_append, List.nil_append] at this
      rw [show i + (1 + 1) = i + 1 + 1 by omega] at this
      rw [this]; congr 1; simp; omega
  | .br o es, p, i, h, hA, hz => by
    simp only [TF.ok] at h
    obtain ⟨h1, h2, h5, h3⟩ := h
    have ho : cO o = true := by rw [h2]; exact h1
    have hc0 : cC o ≠ 0 := by simpa [cO] using ho
    have hcx := cX_cC _ hc0
    simp only [TF.rd] at hA hz
    have hl : (o :: (es.rd ++ [cC o])).length = 1 + (es.rd.length + 1) := by simp; omega
    have hcl : bt t ((i + 1 + es.rd.length : Nat) : Int) = cC o := hA.tail.right.head
    have hb := hA.head
    have hcn := cls_no hcx
    have hov := cO_vals ho
    have hown : stS t i = (List.range (ownN o es.len)).map fun k => pcS t i (i + (o :: (es.rd ++ [cC o])).length) (o :: ((es.del k).rd ++ [cC o])) := by
      have hlen : (elS t i).length = es.len := by rw [elS_brk ho hcx h3 hA, sp_len]
      have hw : ∀ k, woS t i k = pcS t i (i + (o :: (es.rd ++ [cC o])).length) (o :: ((es.del k).rd ++ [cC o])) := fun k => woS_brk ho hcx h3 hA hz
      unfold stS ownN
      rw [hb, hlen, if_neg (by rcases hov with h | h | h | h <;> rw [h] <;> decide)]
      by_cases q1 : o = 91
      · rw [if_pos q1]
        by_cases q2 : es.len = 1
        · rw [if_pos ⟨q1, q2⟩, if_pos q2]
          simp [hw]
        · rw [if_neg (fun h => q2 h.2), if_neg (fun h => by rcases h with h | h; omega; omega), if_neg q2]; rfl
      · rw [if_neg (fun h => q1 h.1), if_neg q1]
        by_cases q2 : o = 123
        · rw [if_pos (.inl q2), if_pos q2]
          exact List.map_congr_left (fun k _ => hw k)
        · rw [if_neg q2]
          by_cases q3 : o = 60
          · rw [if_pos q3]
            by_cases q4 : 1 < es.len
            · rw [if_pos (.inr ⟨q3, q4⟩), if_pos q4]
              exact List.map_congr_left (fun k _ => hw k)
            · rw [if_neg (fun h => by rcases h with h | h; exact q2 h; exact q4 h.2), if_neg q4]; rfl
          · rw [if_neg (fun h => by rcases h with h | h; exact q2 h; exact q3 h.1), if_neg q3]; rfl
    have hes : rgS t (i + 1) es.rd.length = es.st.map fun es' => pcS t (i + 1) (i + 1 + es.rd.length) es'.rd := by
      have hA2 := hA.tail.left
      cases es with
      | nil => simp [TEs.rd, TEs.st, rgS]
      | cons e es =>
        simp only [TEs.ok] at h3
        have hz2 : i + 1 + (e.rd ++ es.rt).length ≤ t.size := by rw [hl] at hz; simp only [TEs.rd] at hz; omega
        simp only [TEs.rd] at hA2
        simp only [TEs.rd, TEs.st, List.map_append, List.map_map]
        have hz3 : i + 1 + (e.rd.length + es.rt.length) ≤ t.size := by simpa using hz2
        rw [List.length_append, rgS_add, TE.stS_ e _ (i + 1) h3.1 hA2.left (by omega), TEs.stS_ es _ (i + 1 + e.rd.length) h3.2 hA2.right (by omega)]
        congr 1
        · refine List.map_congr_left (fun e' _ => ?_)
          simp only [Function.comp, TEs.rd]
          rw [pc_left hA2 hz2]; simp
        · refine List.map_congr_left (fun es' _ => ?_)
          simp only [Function.comp, TEs.rd]
          rw [pc_right hA2.left]; congr 1; omega
    simp only [TF.rd, TF.st, List.map_append, List.map_map]
    rw [hl] at hz ⊢
    rw [rgS_add, rgS_add, rgS_one, rgS_one, hown, hes, stS_no (i := i + 1 + es.rd.length) (by rw [hcl]; exact hcn.1) (by rw [hcl]; exact hcn.2.1) (by rw [hcl]; exact hcn.2.2.1) (by rw [hcl]; exact hcn.2.2.2), List.append_nil]
    congr 1
    · refine List.map_congr_left (fun k _ => ?_)
      simp only [Function.comp, TF.rd]
      rw [hl]
    · refine List.map_congr_left (fun es' _ => ?_)
      simp only [Function.comp, TF.rd]
      have hA3 : At t (i + 1) (es.rd ++ [cC o]) := hA.tail
      rw [pc_left hA3 (by simp; omega)]
      have := pc_right (t := t) (j := i + 1 + (es.rd ++ [cC o]).length) (C := es'.rd ++ [cC o]) (A := [o]) (At.cons hb (At.nil _))
      simp only [List.length_cons, List.length_nil, Nat.zero_add, List.cons_append, List.nil_append] at this
      rw [this]; congr 1; simp; omega
theorem TEs.stS_ : ∀ (es : TEs) (x i : Nat), es.ok s x → At t i es.rt → i + es.rt.length ≤ t.size → rgS t i es.rt.length = es.st.map fun es' => pcS t i (i + es.rt.length) es'.rt
  | .nil, x, i, h, hA, hz => by simp [TEs.rt, TEs.st, rgS]
  | .cons e es, x, i, h, hA, hz => by
    simp only [TEs.ok] at h
    simp only [TEs.rt] at hA hz
    have hl : (44 :: (e.rd ++ es.rt)).length = 1 + (e.rd.length + es.rt.length) := by simp; omega
    have hb := hA.head
    have hA2 := hA.tail
    rw [hl] at hz
    have hz2 : i + 1 + (e.rd ++ es.rt).length ≤ t.size := by simp; omega
    simp only [TEs.rt, TEs.st, List.map_append, List.map_map]
    rw [hl, rgS_add, rgS_add, rgS_one, stS_no (by rw [hb]; decide) (by rw [hb]; decide) (by rw [hb]; decide) (by rw [hb]; decide), List.nil_append, TE.stS_ e _ (i + 1) h.1 hA2.left (by omega), TEs.stS_ es _ (i + 1 + e.rd.length) h.2 hA2.right (by omega)]
    have hone : ∀ j C, pcS t (i + 1) j C = pcS t i j (44 :: C) := fun j C => by
      have := pc_right (t := t) (j := j) (C := C) (A := [44]) (At.cons hb (At.nil _))
      simpa using this
    congr 1
    · refine List.map_congr_left (fun e' _ => ?_)
      simp only [Function.comp, TEs.rt]
      rw [pc_left hA2 hz2, hone]; congr 1; simp; omega
    · refine List.map_congr_left (fun es' _ => ?_)
      simp only [Function.comp, TEs.rt]
      rw [pc_right hA2.left, hone]; congr 1; omega
end
/-- the steps of a tree's text -/
theorem stS_all {f : TF} (h : TreeOf s t f) : rgS t 0 t.size = f.st.map TF.rd := by
  have h1 := TF.stS_ f 0 0 h.ok h.at_ (by have := h.sz; omega)
  rw [← h.sz] at h1
  rw [h1]
  refine List.map_congr_left (fun f' _ => ?_)
  simp [pcS, seg_self]
end
end Go.Proofs.Ytnfaiaoipeholaa
/- Texts of trees: options, by their own brackets alone. No Go here. -/
namespace Go.Proofs.Ytnfaiaoipeholaa
/-- how a byte turns the depth of options -/
def sqd (c d : Int) : Int := if c = 91 then d + 1 else if c = 93 then d - 1 else d
/-- behind the option, from a place and a depth on -/
def sqF (t : ByteArray) : Nat → Nat → Int → Nat
  | 0, j, _ => j
  | n + 1, j, d => if 0 < d then sqF t n (j + 1) (sqd (bt t j) d) else j
def sqK (t : ByteArray) (j : Nat) (d : Int) : Nat := sqF t (t.size - j) j d
/-- the place behind the option that opens here -/
def sq (t : ByteArray) (i : Nat) : Nat := sqK t (i + 1) 1
section
variable {s t : ByteArray}
theorem sqK_step {j : Nat} {d : Int} (h : j < t.size) (hd : 0 < d) : sqK t j d = sqK t (j + 1) (sqd (bt t j) d) := by
  unfold sqK
  rw [show t.size - j = (t.size - (j + 1)) + 1 by omega]
  show (if 0 < d then sqF t (t.size - (j + 1)) (j + 1) (sqd (bt t j) d) else j) = _
  rw [if_pos hd]
theorem sqK_zero {j : Nat} {d : Int} (hd : ¬ 0 < d) : sqK t j d = j := by
  unfold sqK
  cases t.size - j with
  | zero => rfl
  | succ n => unfold sqF; rw [if_neg hd]
/-- over these bytes the depth of options comes back -/
def BalS (t : ByteArray) (L : List Int) : Prop := ∀ i (d : Int), 1 ≤ d → At t i L → sqK t i d = sqK t (i + L.length) d
theorem BalS.nil : BalS t [] := fun _ _ _ _ => rfl
theorem BalS.plain {c : Int} {L : List Int} (h : c ≠ 0) (h1 : c ≠ 91) (h2 : c ≠ 93) (g : BalS t L) : BalS t (c :: L) := fun i d hd hA => by
  have hb := hA.head
  rw [sqK_step (bt_lt (by rw [hb]; exact h)) (by omega), hb, show sqd c d = d by unfold sqd; rw [if_neg h1, if_neg h2], g (i + 1) d hd hA.tail]
  simp only [List.length_cons]; congr 1; omega
theorem BalS.app {A B : List Int} (h : BalS t A) (g : BalS t B) : BalS t (A ++ B) := fun i d hd hA => by
  rw [h i d hd hA.left, g _ d hd hA.right]
  simp only [List.length_append]; congr 1; omega
theorem BalS.opt {L : List Int} (g : BalS t L) : BalS t (91 :: (L ++ [93])) := fun i d hd hA => by
  have hb := hA.head
  have hA2 := hA.tail
  have hcl : bt t ((i + 1 + L.length : Nat) : Int) = 93 := hA2.right.head
  rw [sqK_step (bt_lt (by rw [hb]; decide)) (by omega), hb, show sqd 91 d = d + 1 from rfl, g (i + 1) (d + 1) (by omega) hA2.left, sqK_step (bt_lt (by rw [hcl]; decide)) (by omega), hcl, show sqd 93 (d + 1) = d + 1 - 1 from rfl]
  simp only [List.length_cons, List.length_append, List.length_nil]
  rw [show d + 1 - 1 = d by omega]; congr 1; omega
theorem pl_sq {c : Int} (h : Pl c) : c ≠ 91 ∧ c ≠ 93 := by
  refine ⟨fun e => ?_, fun e => ?_⟩
  · subst e; exact absurd h.2.1 (by decide)
  · subst e; exact absurd h.2.2.1 (by decide)
mutual
theorem TE.balS : ∀ (e : TE) (x : Nat), e.ok s x → BalS t e.rd
  | .mk d fs, x, h => by
    simp only [TE.ok] at h
    obtain ⟨hd, a, _, h2⟩ := h
    simp only [TE.rd]
    have hp := pl_dig hd
    exact BalS.plain hp.1 (pl_sq hp).1 (pl_sq hp).2 (TFs.balS fs _ h2)
theorem TFs.balS : ∀ (fs : TFs) (l : List Nat), fs.ok s l → BalS t fs.rd
  | .nil, l, h => by simp only [TFs.rd]; exact BalS.nil
  | .cons f fs, l, h => by
    simp only [TFs.ok] at h
    obtain ⟨p, q, _, h1, h2⟩ := h
    simp only [TFs.rd]
    exact (TF.balS f p h1).app (TFs.balS fs q h2)
theorem TF.balS : ∀ (f : TF) (p : Nat), f.ok s p → BalS t f.rd
  | .lt c, p, h => by
    simp only [TF.ok] at h
    obtain ⟨h1, h2⟩ := h
    simp only [TF.rd]
    have hp := pl_let (c := c) (by rw [h2]; exact h1)
    exact BalS.plain hp.1 (pl_sq hp).1 (pl_sq hp).2 BalS.nil
  | .nm c e, p, h => by
    simp only [TF.ok] at h
    obtain ⟨h1, h2, h3⟩ := h
    simp only [TF.rd]
    have hp := pl_nam (c := c) (by rw [h2]; exact h1)
    exact BalS.plain hp.1 (pl_sq hp).1 (pl_sq hp).2 (BalS.plain (by decide) (by decide) (by decide) ((TE.balS e _ h3).app (BalS.plain (by decide) (by decide) (by decide) BalS.nil)))
  | .br o es, p, h => by
    simp only [TF.ok] at h
    obtain ⟨h1, h2, _, h3⟩ := h
    have ho : cO o = true := by rw [h2]; exact h1
    have hov := cO_vals ho
    simp only [TF.rd]
    have hes : BalS t es.rd := by
      cases es with
      | nil => simp only [TEs.rd]; exact BalS.nil
      | cons e es =>
        simp only [TEs.ok] at h3
        simp only [TEs.rd]
        exact (TE.balS e _ h3.1).app (TEs.balS es _ h3.2)
    rcases hov with h | h | h | h
    · rw [h]; exact BalS.plain (by decide) (by decide) (by decide) (hes.app (BalS.plain (by decide) (by decide) (by decide) BalS.nil))
    · rw [h]; exact BalS.opt hes
    · rw [h]; exact BalS.plain (by decide) (by decide) (by decide) (hes.app (BalS.plain (by decide) (by decide) (by decide) BalS.nil))
    · rw [h]; exact BalS.plain (by decide) (by decide) (by decide) (hes.app (BalS.plain (by decide) (by decide) (by decide) BalS.nil))
theorem TEs.balS : ∀ (es : TEs) (x : Nat), es.ok s x → BalS t es.rt
  | .nil, x, h => by simp only [TEs.rt]; exact BalS.nil
  | .cons e es, x, h => by
    simp only [TEs.ok] at h
    simp only [TEs.rt]
    exact BalS.plain (by decide) (by decide) (by decide) ((TE.balS e _ h.1).app (TEs.balS es _ h.2))
end
theorem TEs.balSr (es : TEs) (x : Nat) (h : es.ok s x) : BalS t es.rd := by
  cases es with
  | nil => simp only [TEs.rd]; exact BalS.nil
  | cons e es =>
    simp only [TEs.ok] at h
    simp only [TEs.rd]
    exact (TE.balS e _ h.1).app (TEs.balS es _ h.2)
/-- an option ends where its own brackets say -/
theorem sq_opt {es : TEs} {i x : Nat} (h : es.ok s x) (hA : At t i (91 :: (es.rd ++ [93]))) : sq t i = i + 2 + es.rd.length := by
  have hcl : bt t ((i + 1 + es.rd.length : Nat) : Int) = 93 := hA.tail.right.head
  unfold sq
  rw [TEs.balSr es x h (i + 1) 1 (by omega) hA.tail.left, sqK_step (bt_lt (by rw [hcl]; decide)) (by omega), hcl, show sqd 93 1 = 0 from rfl, sqK_zero (by omega)]
  omega
/-- an option stands here -/
def Opt (s t : ByteArray) (i : Nat) : Prop := ∃ (es : TEs) (x : Nat), es.ok s x ∧ es.len ≤ 1 ∧ At t i (91 :: (es.rd ++ [93]))
mutual
theorem TE.opt : ∀ (e : TE) (x a i : Nat), e.ok s x → At t a e.rd → a ≤ i → i < a + e.rd.length → bt t i = 91 → Opt s t i
  | .mk d fs, x, a, i, h, hA, h1, h2, hb => by
    simp only [TE.ok] at h
    obtain ⟨hd, y, _, h3⟩ := h
    simp only [TE.rd, List.length_cons] at hA h2
    by_cases e : i = a
    · subst e; have := hA.head; omega
    · exact TFs.opt fs _ (a + 1) i h3 hA.tail (by omega) (by omega) hb
theorem TFs.opt : ∀ (fs : TFs) (l : List Nat) (a i : Nat), fs.ok s l → At t a fs.rd → a ≤ i → i < a + fs.rd.length → bt t i = 91 → Opt s t i
  | .nil, l, a, i, h, hA, h1, h2, hb => by simp [TFs.rd] at h2; omega
  | .cons f fs, l, a, i, h, hA, h1, h2, hb => by
    simp only [TFs.ok] at h
    obtain ⟨p, q, _, h3, h4⟩ := h
    simp only [TFs.rd, List.length_append] at hA h2
    by_cases e : i < a + f.rd.length
    · exact TF.opt f p a i h3 hA.left h1 e hb
    · exact TFs.opt fs q (a + f.rd.length) i h4 hA.right (by omega) (by omega) hb
theorem TF.opt : ∀ (f : TF) (p a i : Nat), f.ok s p → At t a f.rd → a ≤ i → i < a + f.rd.length → bt t i = 91 → Opt s t i
  | .lt c, p, a, i, h, hA, h1, h2, hb => by
    simp only [TF.ok] at h
    simp only [TF.rd, List.length_cons, List.length_nil] at hA h2
    have e : i = a := by omega
    subst e
    have hw : 97 ≤ bt s p ∧ bt s p ≤ 122 := by simpa [cL] using h.1
    have := hA.head
    omega
  | .nm c e, p, a, i, h, hA, h1, h2, hb => by
    simp only [TF.ok] at h
    obtain ⟨g1, g2, g3⟩ := h
    simp only [TF.rd, List.length_cons, List.length_append, List.length_nil] at hA h2
    have hw : 65 ≤ bt s p ∧ bt s p ≤ 90 := by simpa [cN] using g1
    have h41 : bt t ((a + 1 + 1 + e.rd.length : Nat) : Int) = 41 := hA.tail.tail.right.head
    have h40 : bt t ((a + 1 : Nat) : Int) = 40 := hA.tail.head
    by_cases e0 : i = a
    · subst e0; have := hA.head; omega
    by_cases e1 : i = a + 1
    · subst e1; omega
    by_cases e2 : i = a + 1 + 1 + e.rd.length
    · subst e2; omega
    exact TE.opt e _ (a + 1 + 1) i g3 hA.tail.tail.left (by omega) (by omega) hb
  | .br o es, p, a, i, h, hA, h1, h2, hb => by
    simp only [TF.ok] at h
    obtain ⟨g1, g2, g5, g3⟩ := h
    simp only [TF.rd, List.length_cons, List.length_append, List.length_nil] at hA h2
    have hcl : bt t ((a + 1 + es.rd.length : Nat) : Int) = cC o := hA.tail.right.head
    have hcv := cC_vals o
    by_cases e0 : i = a
    · subst e0
      have ho : o = 91 := by have := hA.head; omega
      subst ho
      exact ⟨es, p + 1, g3, g5.2.1 rfl, hA⟩
    by_cases e2 : i = a + 1 + es.rd.length
    · subst e2; omega
    have hA2 := hA.tail.left
    have h5 : a + 1 ≤ i := by omega
    have h6 : i < a + 1 + es.rd.length := by omega
    cases es with
    | nil => simp [TEs.rd] at h6; omega
    | cons e es =>
      simp only [TEs.ok] at g3
      simp only [TEs.rd, List.length_append] at hA2 h6
      by_cases e4 : i < a + 1 + e.rd.length
      · exact TE.opt e _ (a + 1) i g3.1 hA2.left h5 e4 hb
      · exact TEs.opt es _ (a + 1 + e.rd.length) i g3.2 hA2.right (by omega) (by omega) hb
theorem TEs.opt : ∀ (es : TEs) (x a i : Nat), es.ok s x → At t a es.rt → a ≤ i → i < a + es.rt.length → bt t i = 91 → Opt s t i
  | .nil, x, a, i, h, hA, h1, h2, hb => by simp [TEs.rt] at h2; omega
  | .cons e es, x, a, i, h, hA, h1, h2, hb => by
    simp only [TEs.ok] at h
    simp only [TEs.rt, List.length_cons, List.length_append] at hA h2
    by_cases e0 : i = a
    · subst e0; have := hA.head; omega
    by_cases e4 : i < a + 1 + e.rd.length
    · exact TE.opt e _ (a + 1) i h.1 hA.tail.left (by omega) e4 hb
    · exact TEs.opt es _ (a + 1 + e.rd.length) i h.2 hA.tail.right (by omega) (by omega) hb
end
/-- an option that is not empty, emptied, is a step -/
theorem opt_step {f : TF} (h : TreeOf s t f) {i : Nat} (hi : i < t.size) (hb : bt t i = 91) (hne : bt t (i + 1 : Nat) ≠ 93) :
    ∃ f' ∈ f.st, f'.rd = seg t 0 i ++ (91 :: 93 :: seg t (sq t i) t.size) := by
  obtain ⟨es, x, q1, q2, q3⟩ := TF.opt f 0 0 i h.ok h.at_ (Nat.zero_le _) (by have := h.sz; omega) hb
  have hcl : bt t ((i + 1 + es.rd.length : Nat) : Int) = 93 := q3.tail.right.head
  have hz : i + (91 :: (es.rd ++ [93])).length ≤ t.size := by
    have := bt_lt (s := t) (p := i + 1 + es.rd.length) (by rw [hcl]; decide)
    simp; omega
  have hlen : es.len = 1 := by
    cases es with
    | nil => simp only [TEs.rd, List.length_nil, Nat.add_zero] at hcl; exact absurd hcl hne
    | cons e es => simp only [TEs.len] at q2 ⊢; omega
  have hel : (elS t i).length = 1 := by rw [elS_brk (by decide) (by decide) q1 q3, sp_len, hlen]
  have hst : stS t i = [woS t i 0] := by
    unfold stS
    rw [if_neg (by rw [hb]; decide), if_pos ⟨hb, hel⟩]
  have hmem : woS t i 0 ∈ rgS t 0 t.size := by
    unfold rgS
    rw [List.mem_flatMap]
    exact ⟨i, by rw [List.mem_range'_1]; omega, by rw [hst]; simp⟩
  rw [stS_all h, List.mem_map] at hmem
  obtain ⟨f', g1, g2⟩ := hmem
  refine ⟨f', g1, ?_⟩
  rw [g2, woS_brk (by decide) (by decide) q1 q3 hz, sq_opt q1 q3]
  have hdel : (es.del 0).rd = [] := by
    cases es with
    | nil => simp [TEs.del, TEs.rd]
    | cons e es =>
      simp only [TEs.len] at hlen
      cases es with
      | nil => simp [TEs.del, TEs.rd]
      | cons e2 es => simp [TEs.len] at hlen
  rw [hdel]
  unfold pcS
  simp
  congr 1; omega
end
end Go.Proofs.Ytnfaiaoipeholaa
