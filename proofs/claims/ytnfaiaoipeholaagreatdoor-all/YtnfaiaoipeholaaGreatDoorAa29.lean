/- TrB TrC TrD TrE -/
import Derived.Test.YtnfaiaoipeholaaGreatDoorAa28
namespace Go.Proofs.YtnfaiaoipeholaaGreatDoor
section
variable {s t : ByteArray}
theorem At.cons {i : Nat} {x : Int} {L : List Int} (h : bt t i = x) (g : At t (i + 1) L) : At t i (x :: L) := fun k hk => by
  cases k with
  | zero => simpa using h
  | succ k =>
    have := g k (by simpa using hk)
    rw [show i + (k + 1) = i + 1 + k by omega, this]; rfl
theorem At.nil (i : Nat) : At t i [] := fun k hk => by simp at hk
theorem At.app {i : Nat} {A B : List Int} (h : At t i A) (g : At t (i + A.length) B) : At t i (A ++ B) := fun k hk => by
  by_cases e : k < A.length
  · rw [h k e, List.getElem_append_left e]
  · have := g (k - A.length) (by simp at hk; omega)
    rw [show i + k = i + A.length + (k - A.length) by omega, this, List.getElem_append_right (by omega)]
/-- an expression that is read is a tree -/
def IsE (s t : ByteArray) (n : Nat) : Prop := ∀ x i j h, pE s t 0 n x i = some (j, h) → ∃ e : TE, e.ok s x ∧ e.ht = h ∧ At t i e.rd ∧ j = i + e.rd.length
theorem pEl_tree {n x : Nat} {c : Int} {many : Bool} (ih : IsE s t n) :
    ∀ m i top cnt j h, pEl t (pE s t 0 n x) c many 0 m i top cnt = some (j, h) → ∃ (e : TE) (es : TEs), e.ok s x ∧ es.ok s x ∧ (es.len = 0 ∨ many = true) ∧ At t i (e.rd ++ es.rt ++ [c]) ∧ j = i + e.rd.length + es.rt.length + 1 ∧ h = max top (max e.ht es.ht)
  | 0, i, top, cnt, j, h, e => by cases e
  | m + 1, i, top, cnt, j, h, e => by
    unfold pEl at e
    cases hq : pE s t 0 n x i with
    | none => rw [hq] at e; cases e
    | some q =>
      obtain ⟨k, h1⟩ := q
      rw [hq] at e
      simp only at e
      obtain ⟨e1, o1, o2, o3, o4⟩ := ih x i k h1 hq
      split at e
      · cases e
      split at e
      · rename_i hb
        simp only [Option.some.injEq, Prod.mk.injEq] at e
        refine ⟨e1, .nil, o1, by simp [TEs.ok], .inl rfl, ?_, by simp [TEs.rt]; omega, by simp [TEs.ht]; omega⟩
        simp only [TEs.rt, List.append_nil]
        exact o3.app (At.cons (by rw [← o4]; exact hb) (At.nil _))
      split at e
      · rename_i hb
        obtain ⟨e2, es, p1, p2, p3, p4, p5, p6⟩ := pEl_tree ih m (k + 1) (max top h1) (cnt + 1) j h e
        refine ⟨e1, .cons e2 es, o1, ?_, .inr hb.2, ?_, ?_, ?_⟩
        · simp only [TEs.ok]; exact ⟨p1, p2⟩
        · have : At t i (e1.rd ++ (44 :: (e2.rd ++ es.rt ++ [c]))) := o3.app (At.cons (by rw [← o4]; exact hb.1) (by rw [← o4]; exact p4))
          simpa [TEs.rt] using this
        · simp only [TEs.rt, List.length_cons, List.length_append]; omega
        · simp only [TEs.ht]; omega
      · cases e
theorem pF_tree {n : Nat} (ih : IsE s t n) {p i j h : Nat} (hp : isF s p = true) (e : pF s t 0 (pE s t 0 n) p i = some (j, h)) : ∃ f : TF, f.ok s p ∧ f.ht = h ∧ At t i f.rd ∧ j = i + f.rd.length := by
  unfold pF at e
  split at e
  · cases e
  rename_i hb
  have hb' : bt t i = bt s p := by simpa using hb
  split at e
  · rename_i hl
    simp only [Option.some.injEq, Prod.mk.injEq] at e
    exact ⟨.lt (bt s p), by simp only [TF.ok]; exact ⟨hl, trivial⟩, by simp [TF.ht]; omega, by simp only [TF.rd]; exact At.cons hb' (At.nil _), by simp [TF.rd]; omega⟩
  rename_i hl
  split at e
  · rename_i hn
    unfold pN at e
    split at e
    · cases e
    rename_i h40
    cases hq : pE s t 0 n (rl s (bt s p) + 2).toNat (i + 1 + 1) with
    | none => rw [hq] at e; cases e
    | some q =>
      obtain ⟨k, h1⟩ := q
      rw [hq] at e
      simp only at e
      obtain ⟨e1, o1, o2, o3, o4⟩ := ih _ _ _ _ hq
      split at e
      · rename_i h41
        simp only [Option.some.injEq, Prod.mk.injEq] at e
        refine ⟨.nm (bt s p) e1, by simp only [TF.ok]; exact ⟨hn, trivial, o1⟩, by simp only [TF.ht]; omega, ?_, by simp [TF.rd]; omega⟩
        simp only [TF.rd]
        exact At.cons hb' (At.cons (by simpa using h40) (o3.app (At.cons (by rw [← o4]; exact h41) (At.nil _))))
      · cases e
  · rename_i hn
    have hc0 := isF_cC hp (by simpa using hl) (by simpa using hn)
    have ho : cO (bt s p) = true := by simp [cO, hc0]
    have hov := cO_vals ho
    unfold pB at e
    split at e
    · rename_i hc
      simp only [Option.some.injEq, Prod.mk.injEq] at e
      refine ⟨.br (bt s p) .nil, ?_, by simp [TF.ht, TEs.ht]; omega, ?_, by simp [TF.rd, TEs.rd]; omega⟩
      · simp only [TF.ok, TEs.len, TEs.ok]
        exact ⟨ho, trivial, ⟨fun h => by omega, fun _ => by omega, fun h => by omega⟩, trivial⟩
      · simp only [TF.rd, TEs.rd, List.nil_append]
        exact At.cons hb' (At.cons hc.1 (At.nil _))
    · obtain ⟨e1, es, p1, p2, p3, p4, p5, p6⟩ := pEl_tree ih _ _ _ _ _ _ e
      refine ⟨.br (bt s p) (.cons e1 es), ?_, by simp only [TF.ht, TEs.ht]; omega, ?_, ?_⟩
      · simp only [TF.ok, TEs.len, TEs.ok]
        refine ⟨ho, trivial, ⟨fun h => ?_, fun h => ?_, fun _ => by omega⟩, p1, p2⟩
        · rcases p3 with p3 | p3
          · omega
          · simp at p3; omega
        · rcases p3 with p3 | p3
          · omega
          · simp at p3; omega
      · simp only [TF.rd, TEs.rd]
        exact At.cons hb' p4
      · simp only [TF.rd, TEs.rd, List.length_cons, List.length_append, List.length_nil]; omega
theorem pFs_tree {n : Nat} (ih : IsE s t n) : ∀ (l : List Nat) (i top j h : Nat), (∀ f ∈ l, isF s f = true) → pFs (pF s t 0 (pE s t 0 n)) l i top = some (j, h) → ∃ fs : TFs, fs.ok s l ∧ h = max top fs.ht ∧ At t i fs.rd ∧ j = i + fs.rd.length
  | [], i, top, j, h, hl, e => by
    simp only [pFs, Option.some.injEq, Prod.mk.injEq] at e
    exact ⟨.nil, by simp [TFs.ok], by simp [TFs.ht]; omega, by simp only [TFs.rd]; exact At.nil _, by simp [TFs.rd]; omega⟩
  | p :: l, i, top, j, h, hl, e => by
    unfold pFs at e
    cases hq : pF s t 0 (pE s t 0 n) p i with
    | none => rw [hq] at e; cases e
    | some q =>
      obtain ⟨k, h1⟩ := q
      rw [hq] at e
      simp only at e
      obtain ⟨f, o1, o2, o3, o4⟩ := pF_tree ih (hl p (by simp)) hq
      obtain ⟨fs, p1, p2, p3, p4⟩ := pFs_tree ih l k _ j h (fun f' hf => hl f' (by simp [hf])) e
      refine ⟨.cons f fs, ?_, by simp only [TFs.ht]; omega, ?_, by simp only [TFs.rd, List.length_append]; omega⟩
      · simp only [TFs.ok]; exact ⟨p, l, rfl, o1, p1⟩
      · simp only [TFs.rd]; exact o3.app (by rw [← o4]; exact p3)
theorem pE_tree : ∀ n, IsE s t n
  | 0, x, i, j, h, e => by cases e
  | n + 1, x, i, j, h, e => by
    have ih : IsE s t n := pE_tree n
    unfold pE at e
    split at e
    · rename_i hd
      have hv : 48 ≤ bt t i ∧ bt t i ≤ 57 := by simpa [cD] using hd
      cases hq : ap s (bt t i - 48).toNat x with
      | none => rw [hq] at e; cases e
      | some a =>
        rw [hq] at e
        simp only at e
        obtain ⟨fs, p1, p2, p3, p4⟩ := pFs_tree ih (fe s a).1 (i + 1) 0 j h (fun f hf => (fe_mem hf).1) e
        refine ⟨.mk (bt t i - 48).toNat fs, ?_, by simp only [TE.ht]; omega, ?_, by simp only [TE.rd, List.length_cons]; omega⟩
        · simp only [TE.ok]; exact ⟨by omega, a, hq, p1⟩
        · simp only [TE.rd]; exact At.cons (by omega) p3
    · cases e
/-- a tree of the grammar, as a tree -/
structure TreeOf (s t : ByteArray) (f : TF) : Prop where
  ok : f.ok s 0
  at_ : At t 0 f.rd
  sz : t.size = f.rd.length
  le : t.size ≤ 2000
theorem whole_tree (hf : isF s 0 = true) {h : Nat} (e : whole s t 0 = some h) : ∃ f : TF, TreeOf s t f ∧ f.ht = h := by
  unfold whole at e
  split at e
  · cases e
  cases hq : pF s t 0 (pE s t 0 (t.size + 1)) 0 0 with
  | none => rw [hq] at e; cases e
  | some q =>
    obtain ⟨j, k⟩ := q
    rw [hq] at e
    simp only at e
    split at e
    · rename_i hj
      obtain ⟨f, o1, o2, o3, o4⟩ := pF_tree (pE_tree _) hf hq
      simp only [Option.some.injEq] at e
      exact ⟨f, ⟨o1, o3, by omega, by omega⟩, by omega⟩
    · cases e
theorem TreeOf.whole (hf : isF s 0 = true) {f : TF} (h : TreeOf s t f) : whole s t 0 = some f.ht := by
  unfold Go.Proofs.YtnfaiaoipeholaaGreatDoor.whole
  have := TF.read (s := s) (t := t) (t.size + 1) f 0 0 hf h.ok h.at_ (by have := h.sz; omega)
  rw [if_neg (by have := h.le; omega), this]
  simp only
  rw [if_pos (by have := h.sz; omega)]
end
end Go.Proofs.YtnfaiaoipeholaaGreatDoor

namespace Go.Proofs.YtnfaiaoipeholaaGreatDoor
/-- elements without one of them -/
def TEs.del : TEs → Nat → TEs
  | .nil, _ => .nil
  | .cons _ es, 0 => es
  | .cons e es, k + 1 => .cons e (es.del k)
/-- how many steps a bracket has of its own -/
def ownN (o : Int) (n : Nat) : Nat := if o = 91 then (if n = 1 then 1 else 0) else if o = 123 then n else if o = 60 then (if 1 < n then n else 0) else 0
mutual
/-- the names that stand within, of one kind -/
def TE.inn (c : Int) : TE → List TF
  | .mk _ fs => fs.inn c
def TFs.inn (c : Int) : TFs → List TF
  | .nil => []
  | .cons f fs => f.inn c ++ fs.inn c
def TF.inn (c : Int) : TF → List TF
  | .lt _ => []
  | .nm c' e => (if c' = c then [.nm c' e] else []) ++ e.inn c
  | .br _ es => es.inn c
def TEs.inn (c : Int) : TEs → List TF
  | .nil => []
  | .cons e es => e.inn c ++ es.inn c
end
mutual
/-- what one step makes of it -/
def TE.st : TE → List TE
  | .mk d fs => fs.st.map (.mk d)
def TFs.st : TFs → List TFs
  | .nil => []
  | .cons f fs => f.st.map (fun f' => .cons f' fs) ++ fs.st.map (fun fs' => .cons f fs')
def TF.st : TF → List TF
  | .lt _ => []
  | .nm c e => e.inn c ++ e.st.map (.nm c)
  | .br o es => (List.range (ownN o es.len)).map (fun k => .br o (es.del k)) ++ es.st.map (.br o)
def TEs.st : TEs → List TEs
  | .nil => []
  | .cons e es => e.st.map (fun e' => .cons e' es) ++ es.st.map (fun es' => .cons e es')
end
/-- numbers of a tree: bytes, letters, steps, height, names -/
structure Nu where
  sz : Nat
  wl : Nat
  sn : Nat
  ht : Nat
  nc : Int → Nat
structure Nu.le (a b : Nu) : Prop where
  sz : a.sz ≤ b.sz
  wl : a.wl ≤ b.wl
  sn : a.sn ≤ b.sn
  ht : a.ht ≤ b.ht
  nc : ∀ c, a.nc c ≤ b.nc c
def Nu.zero : Nu := ⟨0, 0, 0, 0, fun _ => 0⟩
def Nu.add (a b : Nu) : Nu := ⟨a.sz + b.sz, a.wl + b.wl, a.sn + b.sn, max a.ht b.ht, fun c => a.nc c + b.nc c⟩
def Nu.more (a : Nu) (k : Nat) : Nu := ⟨a.sz + k, a.wl, a.sn, a.ht, a.nc⟩
def Nu.name (a : Nu) (c : Int) : Nu := ⟨a.sz + 3, a.wl, a.nc c + a.sn, a.ht + 1, fun c' => (if c = c' then 1 else 0) + a.nc c'⟩
def Nu.brk (a : Nu) (o : Int) (n : Nat) : Nu := ⟨a.sz + (if n = 0 then 2 else 1), a.wl, ownN o n + a.sn, a.ht, a.nc⟩
mutual
def TE.nu : TE → Nu
  | .mk _ fs => fs.nu.more 1
def TFs.nu : TFs → Nu
  | .nil => .zero
  | .cons f fs => f.nu.add fs.nu
def TF.nu : TF → Nu
  | .lt _ => ⟨1, 1, 0, 0, fun _ => 0⟩
  | .nm c e => e.nu.name c
  | .br o es => es.nu.brk o es.len
def TEs.nu : TEs → Nu
  | .nil => .zero
  | .cons e es => (e.nu.more 1).add es.nu
end
section
theorem Nu.le.rfl {a : Nu} : a.le a := ⟨Nat.le_refl _, Nat.le_refl _, Nat.le_refl _, Nat.le_refl _, fun _ => Nat.le_refl _⟩
theorem Nu.le.trans {a b c : Nu} (h : a.le b) (g : b.le c) : a.le c := ⟨Nat.le_trans h.sz g.sz, Nat.le_trans h.wl g.wl, Nat.le_trans h.sn g.sn, Nat.le_trans h.ht g.ht, fun x => Nat.le_trans (h.nc x) (g.nc x)⟩
theorem Nu.add_l {a b c : Nu} (h : a.le b) : (a.add c).le (b.add c) := ⟨by have := h.sz; simp [Nu.add]; omega, by have := h.wl; simp [Nu.add]; omega, by have := h.sn; simp [Nu.add]; omega, by have := h.ht; simp [Nu.add]; omega, fun x => by have := h.nc x; simp [Nu.add]; omega⟩
theorem Nu.add_r {a b c : Nu} (h : a.le b) : (c.add a).le (c.add b) := ⟨by have := h.sz; simp [Nu.add]; omega, by have := h.wl; simp [Nu.add]; omega, by have := h.sn; simp [Nu.add]; omega, by have := h.ht; simp [Nu.add]; omega, fun x => by have := h.nc x; simp [Nu.add]; omega⟩
theorem Nu.le_add_l (a b : Nu) : a.le (a.add b) := ⟨by simp [Nu.add], by simp [Nu.add], by simp [Nu.add], by simp [Nu.add]; omega, fun x => by simp [Nu.add]⟩
theorem Nu.le_add_r (a b : Nu) : b.le (a.add b) := ⟨by simp [Nu.add], by simp [Nu.add], by simp [Nu.add], by simp [Nu.add]; omega, fun x => by simp [Nu.add]⟩
theorem Nu.le_more (a : Nu) (k : Nat) : a.le (a.more k) := ⟨by simp [Nu.more], Nat.le_refl _, Nat.le_refl _, Nat.le_refl _, fun _ => Nat.le_refl _⟩
theorem Nu.more_le {a b : Nu} (h : a.le b) (k : Nat) : (a.more k).le (b.more k) := ⟨by have := h.sz; simp [Nu.more]; omega, h.wl, h.sn, h.ht, h.nc⟩
theorem Nu.name_le {a b : Nu} (h : a.le b) (c : Int) : (a.name c).le (b.name c) := ⟨by have := h.sz; simp [Nu.name]; omega, h.wl, by have := h.sn; have := h.nc c; simp [Nu.name]; omega, by have := h.ht; simp [Nu.name]; omega, fun x => by have := h.nc x; simp [Nu.name]; omega⟩
theorem Nu.le_name (a : Nu) (c : Int) : a.le (a.name c) := ⟨by simp [Nu.name], Nat.le_refl _, by simp [Nu.name], by simp [Nu.name], fun x => by simp [Nu.name]⟩
theorem Nu.brk_le {a b : Nu} (h : a.le b) (o : Int) (n : Nat) : (a.brk o n).le (b.brk o n) := ⟨by have := h.sz; simp [Nu.brk]; omega, h.wl, by have := h.sn; simp [Nu.brk]; omega, h.ht, h.nc⟩
theorem Nu.le_brk (a : Nu) (o : Int) (n : Nat) : a.le (a.brk o n) := ⟨by simp [Nu.brk], Nat.le_refl _, by simp [Nu.brk], Nat.le_refl _, fun _ => Nat.le_refl _⟩
mutual
/-- a name that stands within is no greater -/
theorem TE.inn_le (c : Int) : ∀ (e : TE) (g : TF), g ∈ e.inn c → g.nu.le e.nu
  | .mk _ fs, g, h => by
    simp only [TE.inn] at h
    simp only [TE.nu]
    exact (TFs.inn_le c fs g h).trans (Nu.le_more _ _)
theorem TFs.inn_le (c : Int) : ∀ (fs : TFs) (g : TF), g ∈ fs.inn c → g.nu.le fs.nu
  | .nil, g, h => by simp [TFs.inn] at h
  | .cons f fs, g, h => by
    simp only [TFs.inn, List.mem_append] at h
    simp only [TFs.nu]
    rcases h with h | h
    · exact (TF.inn_le c f g h).trans (Nu.le_add_l _ _)
    · exact (TFs.inn_le c fs g h).trans (Nu.le_add_r _ _)
theorem TF.inn_le (c : Int) : ∀ (f g : TF), g ∈ f.inn c → g.nu.le f.nu
  | .lt _, g, h => by simp [TF.inn] at h
  | .nm c' e, g, h => by
    simp only [TF.inn, List.mem_append] at h
    rcases h with h | h
    · split at h
      · simp at h; subst h; exact Nu.le.rfl
      · simp at h
    · simp only [TF.nu]
      exact (TE.inn_le c e g h).trans (Nu.le_name _ _)
  | .br o es, g, h => by
    simp only [TF.inn] at h
    simp only [TF.nu]
    exact (TEs.inn_le c es g h).trans (Nu.le_brk _ _ _)
theorem TEs.inn_le (c : Int) : ∀ (es : TEs) (g : TF), g ∈ es.inn c → g.nu.le es.nu
  | .nil, g, h => by simp [TEs.inn] at h
  | .cons e es, g, h => by
    simp only [TEs.inn, List.mem_append] at h
    simp only [TEs.nu]
    rcases h with h | h
    · exact ((TE.inn_le c e g h).trans (Nu.le_more _ _)).trans (Nu.le_add_l _ _)
    · exact (TEs.inn_le c es g h).trans (Nu.le_add_r _ _)
end
theorem TEs.del_len : ∀ (es : TEs) (k : Nat), k < es.len → (es.del k).len + 1 = es.len
  | .nil, k, h => by simp [TEs.len] at h
  | .cons e es, 0, h => by simp [TEs.del, TEs.len]
  | .cons e es, k + 1, h => by
    simp only [TEs.len] at h
    simp only [TEs.del, TEs.len]
    rw [TEs.del_len es k (by omega)]
theorem TE.nu_pos : ∀ e : TE, 1 ≤ e.nu.sz
  | .mk _ fs => by simp [TE.nu, Nu.more]
theorem TEs.del_le : ∀ (es : TEs) (k : Nat), k < es.len → (es.del k).nu.le es.nu ∧ (es.del k).nu.sz + 2 ≤ es.nu.sz
  | .nil, k, h => by simp [TEs.len] at h
  | .cons e es, 0, h => by
    simp only [TEs.del, TEs.nu]
    refine ⟨Nu.le_add_r _ _, ?_⟩
    have := TE.nu_pos e
    simp [Nu.add, Nu.more]; omega
  | .cons e es, k + 1, h => by
    simp only [TEs.len] at h
    obtain ⟨h1, h2⟩ := TEs.del_le es k (by omega)
    simp only [TEs.del, TEs.nu]
    exact ⟨Nu.add_r h1, by simp [Nu.add]; omega⟩
theorem ownN_mono {o : Int} {n : Nat} (h : 0 < ownN o (n + 1)) : ownN o n ≤ ownN o (n + 1) := by
  unfold ownN at h ⊢
  by_cases h1 : o = 91
  · simp only [if_pos h1] at h ⊢
    split at h
    · split <;> omega
    · omega
  · simp only [if_neg h1] at h ⊢
    by_cases h2 : o = 123
    · simp only [if_pos h2]; omega
    · simp only [if_neg h2]
      split
      · split <;> split <;> omega
      · omega
theorem ownN_le (o : Int) (n : Nat) : ownN o n ≤ n := by
  unfold ownN
  split
  · split <;> omega
  split
  · omega
  split
  · split <;> omega
  · omega
theorem brk_del {o : Int} {es : TEs} {k : Nat} (h : k < es.len) (ho : 0 < ownN o es.len) : ((es.del k).nu.brk o (es.del k).len).le (es.nu.brk o es.len) ∧ ((es.del k).nu.brk o (es.del k).len).sz < (es.nu.brk o es.len).sz := by
  obtain ⟨h1, h2⟩ := TEs.del_le es k h
  have h3 := TEs.del_len es k h
  have h4 := ownN_mono (o := o) (n := (es.del k).len) (by rw [h3]; exact ho)
  rw [h3] at h4
  have hs := h1.sn
  refine ⟨⟨?_, h1.wl, by simp [Nu.brk]; omega, h1.ht, h1.nc⟩, ?_⟩
  · simp only [Nu.brk]; split <;> split <;> omega
  · simp only [Nu.brk]; split <;> split <;> omega
mutual
/-- a step leaves less -/
theorem TE.st_le : ∀ (e e' : TE), e' ∈ e.st → e'.nu.le e.nu ∧ e'.nu.sz < e.nu.sz
  | .mk d fs, e', h => by
    simp only [TE.st, List.mem_map] at h
    obtain ⟨fs', h1, rfl⟩ := h
    obtain ⟨h2, h3⟩ := TFs.st_le fs fs' h1
    simp only [TE.nu]
    exact ⟨Nu.more_le h2 1, by simp [Nu.more]; omega⟩
theorem TFs.st_le : ∀ (fs fs' : TFs), fs' ∈ fs.st → fs'.nu.le fs.nu ∧ fs'.nu.sz < fs.nu.sz
  | .nil, fs', h => by simp [TFs.st] at h
  | .cons f fs, fs', h => by
    simp only [TFs.st, List.mem_append, List.mem_map] at h
    rcases h with ⟨f', h1, rfl⟩ | ⟨g, h1, rfl⟩
    · obtain ⟨h2, h3⟩ := TF.st_le f f' h1
      simp only [TFs.nu]
      exact ⟨Nu.add_l h2, by simp [Nu.add]; omega⟩
    · obtain ⟨h2, h3⟩ := TFs.st_le fs g h1
      simp only [TFs.nu]
      exact ⟨Nu.add_r h2, by simp [Nu.add]; omega⟩
theorem TF.st_le : ∀ (f f' : TF), f' ∈ f.st → f'.nu.le f.nu ∧ f'.nu.sz < f.nu.sz
  | .lt _, f', h => by simp [TF.st] at h
  | .nm c e, f', h => by
    simp only [TF.st, List.mem_append, List.mem_map] at h
    simp only [TF.nu]
    rcases h with h | ⟨e', h1, rfl⟩
    · have h2 := TE.inn_le c e f' h
      refine ⟨h2.trans (Nu.le_name _ _), ?_⟩
      have := h2.sz
      simp [Nu.name]; omega
    · obtain ⟨h2, h3⟩ := TE.st_le e e' h1
      simp only [TF.nu]
      exact ⟨Nu.name_le h2 c, by simp [Nu.name]; omega⟩
  | .br o es, f', h => by
    simp only [TF.st, List.mem_append, List.mem_map] at h
    rcases h with ⟨k, h1, rfl⟩ | ⟨es', h1, rfl⟩
    · have hk : k < es.len := by
        have := ownN_le o es.len
        simp at h1; omega
      simp only [TF.nu]
      exact brk_del hk (by simp at h1; omega)
    · obtain ⟨h2, h3, h4⟩ := TEs.st_le es es' h1
      simp only [TF.nu]
      rw [h4]
      exact ⟨Nu.brk_le h2 o _, by simp [Nu.brk]; omega⟩
theorem TEs.st_le : ∀ (es es' : TEs), es' ∈ es.st → es'.nu.le es.nu ∧ es'.nu.sz < es.nu.sz ∧ es'.len = es.len
  | .nil, es', h => by simp [TEs.st] at h
  | .cons e es, es', h => by
    simp only [TEs.st, List.mem_append, List.mem_map] at h
    rcases h with ⟨e', h1, rfl⟩ | ⟨g, h1, rfl⟩
    · obtain ⟨h2, h3⟩ := TE.st_le e e' h1
      simp only [TEs.nu, TEs.len]
      exact ⟨Nu.add_l (Nu.more_le h2 1), by simp [Nu.add, Nu.more]; omega, trivial⟩
    · obtain ⟨h2, h3, h4⟩ := TEs.st_le es g h1
      simp only [TEs.nu, TEs.len]
      exact ⟨Nu.add_r h2, by simp [Nu.add]; omega, by omega⟩
end
end
end Go.Proofs.YtnfaiaoipeholaaGreatDoor

namespace Go.Proofs.YtnfaiaoipeholaaGreatDoor
mutual
theorem TE.nu_len : ∀ e : TE, e.rd.length = e.nu.sz
  | .mk _ fs => by simp [TE.rd, TE.nu, Nu.more, TFs.nu_len fs]
theorem TFs.nu_len : ∀ fs : TFs, fs.rd.length = fs.nu.sz
  | .nil => by simp [TFs.rd, TFs.nu, Nu.zero]
  | .cons f fs => by simp [TFs.rd, TFs.nu, Nu.add, TF.nu_len f, TFs.nu_len fs]
theorem TF.nu_len : ∀ f : TF, f.rd.length = f.nu.sz
  | .lt _ => by simp [TF.rd, TF.nu]
  | .nm _ e => by simp [TF.rd, TF.nu, Nu.name, TE.nu_len e]
  | .br o .nil => by simp [TF.rd, TF.nu, TEs.rd, TEs.nu, Nu.brk, Nu.zero, TEs.len]
  | .br o (.cons e es) => by simp [TF.rd, TF.nu, TEs.rd, TEs.nu, Nu.brk, Nu.add, Nu.more, TEs.len, TE.nu_len e, TEs.nu_len es]; omega
theorem TEs.nu_len : ∀ es : TEs, es.rt.length = es.nu.sz
  | .nil => by simp [TEs.rt, TEs.nu, Nu.zero]
  | .cons e es => by simp [TEs.rt, TEs.nu, Nu.add, Nu.more, TE.nu_len e, TEs.nu_len es]; omega
end
mutual
theorem TE.nu_ht : ∀ e : TE, e.ht = e.nu.ht
  | .mk _ fs => by simp [TE.ht, TE.nu, Nu.more, TFs.nu_ht fs]
theorem TFs.nu_ht : ∀ fs : TFs, fs.ht = fs.nu.ht
  | .nil => by simp [TFs.ht, TFs.nu, Nu.zero]
  | .cons f fs => by simp [TFs.ht, TFs.nu, Nu.add, TF.nu_ht f, TFs.nu_ht fs]
theorem TF.nu_ht : ∀ f : TF, f.ht = f.nu.ht
  | .lt _ => by simp [TF.ht, TF.nu]
  | .nm _ e => by simp [TF.ht, TF.nu, Nu.name, TE.nu_ht e]
  | .br _ es => by simp [TF.ht, TF.nu, Nu.brk, TEs.nu_ht es]
theorem TEs.nu_ht : ∀ es : TEs, es.ht = es.nu.ht
  | .nil => by simp [TEs.ht, TEs.nu, Nu.zero]
  | .cons e es => by simp [TEs.ht, TEs.nu, Nu.add, Nu.more, TE.nu_ht e, TEs.nu_ht es]
end
mutual
theorem TE.nu_nc (c : Int) : ∀ e : TE, (e.inn c).length = e.nu.nc c
  | .mk _ fs => by simp [TE.inn, TE.nu, Nu.more, TFs.nu_nc c fs]
theorem TFs.nu_nc (c : Int) : ∀ fs : TFs, (fs.inn c).length = fs.nu.nc c
  | .nil => by simp [TFs.inn, TFs.nu, Nu.zero]
  | .cons f fs => by simp [TFs.inn, TFs.nu, Nu.add, TF.nu_nc c f, TFs.nu_nc c fs]
theorem TF.nu_nc (c : Int) : ∀ f : TF, (f.inn c).length = f.nu.nc c
  | .lt _ => by simp [TF.inn, TF.nu]
  | .nm c' e => by
    simp only [TF.inn, TF.nu, Nu.name, List.length_append, TE.nu_nc c e]
    split <;> simp
  | .br _ es => by simp [TF.inn, TF.nu, Nu.brk, TEs.nu_nc c es]
theorem TEs.nu_nc (c : Int) : ∀ es : TEs, (es.inn c).length = es.nu.nc c
  | .nil => by simp [TEs.inn, TEs.nu, Nu.zero]
  | .cons e es => by simp [TEs.inn, TEs.nu, Nu.add, Nu.more, TE.nu_nc c e, TEs.nu_nc c es]
end
mutual
theorem TE.nu_sn : ∀ e : TE, e.st.length = e.nu.sn
  | .mk _ fs => by simp [TE.st, TE.nu, Nu.more, TFs.nu_sn fs]
theorem TFs.nu_sn : ∀ fs : TFs, fs.st.length = fs.nu.sn
  | .nil => by simp [TFs.st, TFs.nu, Nu.zero]
  | .cons f fs => by simp [TFs.st, TFs.nu, Nu.add, TF.nu_sn f, TFs.nu_sn fs]
theorem TF.nu_sn : ∀ f : TF, f.st.length = f.nu.sn
  | .lt _ => by simp [TF.st, TF.nu]
  | .nm c e => by simp [TF.st, TF.nu, Nu.name, TE.nu_sn e, TE.nu_nc c e]
  | .br _ es => by simp [TF.st, TF.nu, Nu.brk, TEs.nu_sn es]
theorem TEs.nu_sn : ∀ es : TEs, es.st.length = es.nu.sn
  | .nil => by simp [TEs.st, TEs.nu, Nu.zero]
  | .cons e es => by simp [TEs.st, TEs.nu, Nu.add, Nu.more, TE.nu_sn e, TEs.nu_sn es]
end
section
variable {s : ByteArray}
theorem let_no {c : Int} {L : List Int} (h : cL c = false) : ((c :: L).filter fun c => cL c) = L.filter fun c => cL c := List.filter_cons_of_neg (by simpa using h)
theorem nm_let {c : Int} (h : cN c = true) : cL c = false := by
  have hv : 65 ≤ c ∧ c ≤ 90 := by simpa [cN] using h
  simp [cL]; omega
theorem op_let {c : Int} (h : cO c = true) : cL c = false := by
  have := cO_vals h
  simp [cL]; omega
theorem cl_let (c : Int) : cL (cC c) = false := by
  rcases cC_vals c with h | h | h | h | h <;> rw [h] <;> decide
mutual
theorem TE.nu_wl : ∀ (e : TE) (x : Nat), e.ok s x → (e.rd.filter fun c => cL c).length = e.nu.wl
  | .mk d fs, x, h => by
    simp only [TE.ok] at h
    obtain ⟨hd, a, _, h2⟩ := h
    simp only [TE.rd, TE.nu, Nu.more]
    rw [let_no (by simp [cL]; omega), TFs.nu_wl fs _ h2]
theorem TFs.nu_wl : ∀ (fs : TFs) (l : List Nat), fs.ok s l → (fs.rd.filter fun c => cL c).length = fs.nu.wl
  | .nil, l, h => by simp [TFs.rd, TFs.nu, Nu.zero]
  | .cons f fs, l, h => by
    simp only [TFs.ok] at h
    obtain ⟨p, q, _, h1, h2⟩ := h
    simp only [TFs.rd, TFs.nu, Nu.add, List.filter_append, List.length_append]
    rw [TF.nu_wl f p h1, TFs.nu_wl fs q h2]
theorem TF.nu_wl : ∀ (f : TF) (p : Nat), f.ok s p → (f.rd.filter fun c => cL c).length = f.nu.wl
  | .lt c, p, h => by
    simp only [TF.ok] at h
    obtain ⟨h1, h2⟩ := h
    simp only [TF.rd, TF.nu]
    rw [List.filter_cons_of_pos (by rw [h2]; simpa using h1)]; rfl
  | .nm c e, p, h => by
    simp only [TF.ok] at h
    obtain ⟨h1, h2, h3⟩ := h
    simp only [TF.rd, TF.nu, Nu.name]
    rw [let_no (by rw [h2]; exact nm_let h1), let_no (by decide), List.filter_append, List.length_append, TE.nu_wl e _ h3]
    simp [cL]
  | .br o es, p, h => by
    simp only [TF.ok] at h
    obtain ⟨h1, h2, _, h3⟩ := h
    simp only [TF.rd, TF.nu, Nu.brk]
    rw [let_no (by rw [h2]; exact op_let h1), List.filter_append, List.length_append]
    have hcl : ([cC o].filter fun c => cL c) = [] := by rw [let_no (cl_let o)]; rfl
    rw [hcl]
    cases es with
    | nil => simp [TEs.rd, TEs.nu, Nu.zero]
    | cons e es =>
      simp only [TEs.ok] at h3
      simp only [TEs.rd, TEs.nu, Nu.add, Nu.more, List.filter_append, List.length_append, List.length_nil]
      rw [TE.nu_wl e _ h3.1, TEs.nu_wl es _ h3.2]; rfl
theorem TEs.nu_wl : ∀ (es : TEs) (x : Nat), es.ok s x → (es.rt.filter fun c => cL c).length = es.nu.wl
  | .nil, x, h => by simp [TEs.rt, TEs.nu, Nu.zero]
  | .cons e es, x, h => by
    simp only [TEs.ok] at h
    simp only [TEs.rt, TEs.nu, Nu.add, Nu.more]
    rw [let_no (by decide), List.filter_append, List.length_append, TE.nu_wl e _ h.1, TEs.nu_wl es _ h.2]
end
mutual
/-- a name that stands within is a tree wherever the name stands -/
theorem TE.inn_ok (c : Int) : ∀ (e : TE) (x : Nat) (g : TF), e.ok s x → g ∈ e.inn c → ∀ p : Nat, cN (bt s p) = true → bt s p = c → g.ok s p
  | .mk d fs, x, g, h, hg, p, hp, hc => by
    simp only [TE.ok] at h
    obtain ⟨_, a, _, h2⟩ := h
    simp only [TE.inn] at hg
    exact TFs.inn_ok c fs _ g h2 hg p hp hc
theorem TFs.inn_ok (c : Int) : ∀ (fs : TFs) (l : List Nat) (g : TF), fs.ok s l → g ∈ fs.inn c → ∀ p : Nat, cN (bt s p) = true → bt s p = c → g.ok s p
  | .nil, l, g, h, hg, p, hp, hc => by simp [TFs.inn] at hg
  | .cons f fs, l, g, h, hg, p, hp, hc => by
    simp only [TFs.ok] at h
    obtain ⟨p', q', _, h1, h2⟩ := h
    simp only [TFs.inn, List.mem_append] at hg
    rcases hg with hg | hg
    · exact TF.inn_ok c f p' g h1 hg p hp hc
    · exact TFs.inn_ok c fs q' g h2 hg p hp hc
theorem TF.inn_ok (c : Int) : ∀ (f : TF) (p' : Nat) (g : TF), f.ok s p' → g ∈ f.inn c → ∀ p : Nat, cN (bt s p) = true → bt s p = c → g.ok s p
  | .lt _, p', g, h, hg, p, hp, hc => by simp [TF.inn] at hg
  | .nm c' e, p', g, h, hg, p, hp, hc => by
    simp only [TF.ok] at h
    obtain ⟨h1, h2, h3⟩ := h
    simp only [TF.inn, List.mem_append] at hg
    rcases hg with hg | hg
    · split at hg
      · rename_i hcc
        simp at hg
        subst hg
        simp only [TF.ok]
        refine ⟨hp, by omega, ?_⟩
        rw [show bt s p = bt s p' by omega]; exact h3
      · simp at hg
    · exact TE.inn_ok c e _ g h3 hg p hp hc
  | .br o es, p', g, h, hg, p, hp, hc => by
    simp only [TF.ok] at h
    obtain ⟨_, _, _, h3⟩ := h
    simp only [TF.inn] at hg
    exact TEs.inn_ok c es _ g h3 hg p hp hc
theorem TEs.inn_ok (c : Int) : ∀ (es : TEs) (x : Nat) (g : TF), es.ok s x → g ∈ es.inn c → ∀ p : Nat, cN (bt s p) = true → bt s p = c → g.ok s p
  | .nil, x, g, h, hg, p, hp, hc => by simp [TEs.inn] at hg
  | .cons e es, x, g, h, hg, p, hp, hc => by
    simp only [TEs.ok] at h
    simp only [TEs.inn, List.mem_append] at hg
    rcases hg with hg | hg
    · exact TE.inn_ok c e x g h.1 hg p hp hc
    · exact TEs.inn_ok c es x g h.2 hg p hp hc
end
theorem TEs.del_ok : ∀ (es : TEs) (k x : Nat), es.ok s x → (es.del k).ok s x
  | .nil, k, x, h => by simp [TEs.del, TEs.ok]
  | .cons e es, 0, x, h => by simp only [TEs.ok] at h; simp only [TEs.del]; exact h.2
  | .cons e es, k + 1, x, h => by
    simp only [TEs.ok] at h
    simp only [TEs.del, TEs.ok]
    exact ⟨h.1, TEs.del_ok es k x h.2⟩
theorem okN_del {o : Int} {n : Nat} (h : 0 < ownN o (n + 1)) : okN o n := by
  unfold ownN at h
  refine ⟨fun e => ?_, fun e => ?_, fun e => ?_⟩
  · subst e; simp at h
  · subst e
    simp only [if_true] at h
    split at h <;> omega
  · subst e
    simp at h
    split at h <;> omega
mutual
/-- a step leads to a tree -/
theorem TE.st_ok : ∀ (e e' : TE) (x : Nat), e.ok s x → e' ∈ e.st → e'.ok s x
  | .mk d fs, e', x, h, he => by
    simp only [TE.st, List.mem_map] at he
    obtain ⟨fs', h1, rfl⟩ := he
    simp only [TE.ok] at h ⊢
    obtain ⟨hd, a, ha, h2⟩ := h
    exact ⟨hd, a, ha, TFs.st_ok fs fs' _ h2 h1⟩
theorem TFs.st_ok : ∀ (fs fs' : TFs) (l : List Nat), fs.ok s l → fs' ∈ fs.st → fs'.ok s l
  | .nil, fs', l, h, he => by simp [TFs.st] at he
  | .cons f fs, fs', l, h, he => by
    simp only [TFs.ok] at h
    obtain ⟨p, q, hl, h1, h2⟩ := h
    simp only [TFs.st, List.mem_append, List.mem_map] at he
    rcases he with ⟨f', g1, rfl⟩ | ⟨g, g1, rfl⟩
    · simp only [TFs.ok]; exact ⟨p, q, hl, TF.st_ok f f' p h1 g1, h2⟩
    · simp only [TFs.ok]; exact ⟨p, q, hl, h1, TFs.st_ok fs g q h2 g1⟩
theorem TF.st_ok : ∀ (f f' : TF) (p : Nat), f.ok s p → f' ∈ f.st → f'.ok s p
  | .lt _, f', p, h, he => by simp [TF.st] at he
  | .nm c e, f', p, h, he => by
    simp only [TF.ok] at h
    obtain ⟨h1, h2, h3⟩ := h
    simp only [TF.st, List.mem_append, List.mem_map] at he
    rcases he with he | ⟨e', g1, rfl⟩
    · exact TE.inn_ok c e _ f' h3 he p h1 h2.symm
    · simp only [TF.ok]; exact ⟨h1, h2, TE.st_ok e e' _ h3 g1⟩
  | .br o es, f', p, h, he => by
    simp only [TF.ok] at h
    obtain ⟨h1, h2, h3, h4⟩ := h
    simp only [TF.st, List.mem_append, List.mem_map] at he
    rcases he with ⟨k, g1, rfl⟩ | ⟨es', g1, rfl⟩
    · have hk : k < ownN o es.len := by simpa using g1
      have hk' : k < es.len := Nat.lt_of_lt_of_le hk (ownN_le _ _)
      simp only [TF.ok]
      refine ⟨h1, h2, okN_del (by rw [TEs.del_len es k hk']; omega), TEs.del_ok es k _ h4⟩
    · simp only [TF.ok]
      rw [(TEs.st_le es es' g1).2.2]
      exact ⟨h1, h2, h3, TEs.st_ok es es' _ h4 g1⟩
theorem TEs.st_ok : ∀ (es es' : TEs) (x : Nat), es.ok s x → es' ∈ es.st → es'.ok s x
  | .nil, es', x, h, he => by simp [TEs.st] at he
  | .cons e es, es', x, h, he => by
    simp only [TEs.ok] at h
    simp only [TEs.st, List.mem_append, List.mem_map] at he
    rcases he with ⟨e', g1, rfl⟩ | ⟨g, g1, rfl⟩
    · simp only [TEs.ok]; exact ⟨TE.st_ok e e' x h.1 g1, h.2⟩
    · simp only [TEs.ok]; exact ⟨h.1, TEs.st_ok es g x h.2 g1⟩
end
end
end Go.Proofs.YtnfaiaoipeholaaGreatDoor

namespace Go.Proofs.YtnfaiaoipeholaaGreatDoor
mutual
/-- how many names; how many steps brackets have of their own -/
def TE.nt : TE → Nat × Nat
  | .mk _ fs => fs.nt
def TFs.nt : TFs → Nat × Nat
  | .nil => (0, 0)
  | .cons f fs => (f.nt.1 + fs.nt.1, f.nt.2 + fs.nt.2)
def TF.nt : TF → Nat × Nat
  | .lt _ => (0, 0)
  | .nm _ e => (e.nt.1 + 1, e.nt.2)
  | .br o es => (es.nt.1, ownN o es.len + es.nt.2)
def TEs.nt : TEs → Nat × Nat
  | .nil => (0, 0)
  | .cons e es => (e.nt.1 + es.nt.1, e.nt.2 + es.nt.2)
end
/-- what holds of these numbers -/
structure Nb (u : Nu) (n : Nat × Nat) : Prop where
  nc : ∀ c, u.nc c ≤ n.1
  sn : u.sn ≤ u.ht * n.1 + n.2
theorem Nb.add {u v : Nu} {n m : Nat × Nat} (h : Nb u n) (g : Nb v m) : Nb (u.add v) (n.1 + m.1, n.2 + m.2) := by
  refine ⟨fun c => by have := h.nc c; have := g.nc c; simp [Nu.add]; omega, ?_⟩
  have h1 := h.sn
  have g1 := g.sn
  have a1 : u.ht * n.1 ≤ max u.ht v.ht * n.1 := Nat.mul_le_mul_right _ (Nat.le_max_left _ _)
  have a2 : v.ht * m.1 ≤ max u.ht v.ht * m.1 := Nat.mul_le_mul_right _ (Nat.le_max_right _ _)
  simp only [Nu.add]
  rw [Nat.mul_add]
  omega
mutual
theorem TE.nb : ∀ e : TE, Nb e.nu e.nt
  | .mk _ fs => by
    have h := TFs.nb fs
    simp only [TE.nu, TE.nt]
    exact ⟨h.nc, h.sn⟩
theorem TFs.nb : ∀ fs : TFs, Nb fs.nu fs.nt
  | .nil => by simp only [TFs.nu, TFs.nt]; exact ⟨fun _ => Nat.le_refl _, by simp [Nu.zero]⟩
  | .cons f fs => by simp only [TFs.nu, TFs.nt]; exact (TF.nb f).add (TFs.nb fs)
theorem TF.nb : ∀ f : TF, Nb f.nu f.nt
  | .lt _ => by simp only [TF.nu, TF.nt]; exact ⟨fun _ => Nat.le_refl _, by simp⟩
  | .nm c e => by
    have h := TE.nb e
    simp only [TF.nu, TF.nt]
    refine ⟨fun c' => by have := h.nc c'; simp only [Nu.name]; split <;> omega, ?_⟩
    have h1 := h.sn
    have h2 := h.nc c
    simp only [Nu.name]
    have h3 : (e.nu.ht + 1) * (e.nt.1 + 1) = e.nu.ht * e.nt.1 + e.nu.ht + e.nt.1 + 1 := by
      rw [Nat.add_mul, Nat.mul_add]; omega
    omega
  | .br o es => by
    have h := TEs.nb es
    simp only [TF.nu, TF.nt]
    have h1 := h.sn
    exact ⟨h.nc, by simp only [Nu.brk]; omega⟩
theorem TEs.nb : ∀ es : TEs, Nb es.nu es.nt
  | .nil => by simp only [TEs.nu, TEs.nt]; exact ⟨fun _ => Nat.le_refl _, by simp [Nu.zero]⟩
  | .cons e es => by
    have h := TE.nb e
    have h' : Nb (e.nu.more 1) e.nt := ⟨h.nc, h.sn⟩
    simp only [TEs.nu, TEs.nt]
    exact h'.add (TEs.nb es)
end
mutual
theorem TE.sb : ∀ e : TE, 4 * e.nt.1 + 2 * e.nt.2 + 1 ≤ e.nu.sz
  | .mk _ fs => by have := TFs.sb fs; simp only [TE.nu, TE.nt, Nu.more]; omega
theorem TFs.sb : ∀ fs : TFs, 4 * fs.nt.1 + 2 * fs.nt.2 ≤ fs.nu.sz
  | .nil => by simp [TFs.nt]
  | .cons f fs => by have := TF.sb f; have := TFs.sb fs; simp only [TFs.nu, TFs.nt, Nu.add]; omega
theorem TF.sb : ∀ f : TF, 4 * f.nt.1 + 2 * f.nt.2 ≤ f.nu.sz
  | .lt _ => by simp [TF.nt]
  | .nm _ e => by have := TE.sb e; simp only [TF.nu, TF.nt, Nu.name]; omega
  | .br o es => by have := TEs.sb es; have := ownN_le o es.len; simp only [TF.nu, TF.nt, Nu.brk]; omega
theorem TEs.sb : ∀ es : TEs, 4 * es.nt.1 + 2 * es.nt.2 + 2 * es.len ≤ es.nu.sz
  | .nil => by simp [TEs.nt, TEs.len]
  | .cons e es => by have := TE.sb e; have := TEs.sb es; simp only [TEs.nu, TEs.nt, TEs.len, Nu.add, Nu.more]; omega
end
end Go.Proofs.YtnfaiaoipeholaaGreatDoor
