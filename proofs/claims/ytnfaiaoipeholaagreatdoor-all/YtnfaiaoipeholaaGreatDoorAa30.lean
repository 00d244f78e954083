/- TrC TrD TrE -/
import Derived.Test.YtnfaiaoipeholaaGreatDoorAa29
namespace Go.Proofs.YtnfaiaoipeholaaGreatDoor
set_option linter.unusedSimpArgs false
set_option linter.unusedVariables false
/-- elements without one of them -/
def TEs.del : TEs → Nat → TEs
  | .nil, _ => .nil
  | .cons _ es, 0 => es
  | .cons e es, k + 1 => .cons e ((TEs.del es) k)
/-- how many steps a bracket has of its own -/
def ownN (o : Int) (n : Nat) : Nat := if o = 91 then (if n = 1 then 1 else 0) else if o = 123 then n else if o = 60 then (if 1 < n then n else 0) else 0
def innA (c : Int) : Alg (List TF) where
  e _ _ r := r
  n0 := []
  n1 _ _ r q := r ++ q
  lt _ := []
  nm c' e r := (if c' = c then [TF.nm c' e] else []) ++ r
  br _ _ r := r
  g0 := []
  g1 _ _ r q := r ++ q
/-- the names that stand within, of one kind -/
def TE.inn (c : Int) (e : (TE TF)) : List TF := (para (innA c) (.inl (.inl e)))
def TFs.inn (c : Int) (fs : TFs) : List TF := (para (innA c) (.inl (.inr fs)))
def TF.inn (c : Int) (f : TF) : List TF := (para (innA c) (.inr (.inl f)))
def TEs.inn (c : Int) (es : TEs) : List TF := (para (innA c) (.inr (.inr es)))
theorem TE.inn_mk (c : Int) (d : Nat) (fs : TFs) : TE.inn c ⟨d, fs⟩ = TFs.inn c fs := by unfold TE.inn TFs.inn; rw [para_e]; rfl
theorem TFs.inn_nil (c : Int) : TFs.inn c [] = [] := by unfold TFs.inn; rw [para_n0]; rfl
theorem TFs.inn_cons (c : Int) (f : TF) (fs : TFs) : TFs.inn c (f :: fs) = f.inn c ++ TFs.inn c fs := by unfold TFs.inn TF.inn; rw [para_n1]; rfl
theorem TF.inn_lt (c : Int) (c_ : Int) : TF.inn c (TF.lt c_) = [] := by unfold TF.inn; rw [para_lt]; rfl
theorem TF.inn_nm (c : Int) (c_ : Int) (e : (TE TF)) : TF.inn c (TF.nm c_ e) = (if c_ = c then [TF.nm c_ e] else []) ++ e.inn c := by unfold TF.inn TE.inn; rw [para_nm]; rfl
theorem TF.inn_br (c : Int) (o : Int) (es : TEs) : TF.inn c (TF.br o es) = TEs.inn c es := by unfold TF.inn TEs.inn; rw [para_br]; rfl
theorem TEs.inn_nil (c : Int) : TEs.inn c [] = [] := by unfold TEs.inn; rw [para_g0]; rfl
theorem TEs.inn_cons (c : Int) (e : (TE TF)) (es : TEs) : TEs.inn c (e :: es) = e.inn c ++ TEs.inn c es := by unfold TEs.inn TE.inn; rw [para_g1]; rfl
def stA : Alg ((List (TE TF) × List TFs) × (List TF × List TEs)) where
  e d _ r := ((r.1.2.map (fun fs' => ⟨d, fs'⟩), []), ([], []))
  n0 := (([], []), ([], []))
  n1 f fs r q := (([], r.2.1.map (fun f' => f' :: fs) ++ q.1.2.map (fun fs' => f :: fs')), ([], []))
  lt _ := (([], []), ([], []))
  nm c e r := (([], []), (TE.inn c e ++ r.1.1.map (TF.nm c), []))
  br o es r := (([], []), ((List.range (ownN o (TEs.len es))).map (fun k => TF.br o (TEs.del es k)) ++ r.2.2.map (TF.br o), []))
  g0 := (([], []), ([], []))
  g1 e es r q := (([], []), ([], r.1.1.map (fun e' => e' :: es) ++ q.2.2.map (fun es' => e :: es')))
/-- what one step makes of it -/
def TE.st (e : (TE TF)) : List (TE TF) := (para stA (.inl (.inl e))).1.1
def TFs.st (fs : TFs) : List TFs := (para stA (.inl (.inr fs))).1.2
def TF.st (f : TF) : List TF := (para stA (.inr (.inl f))).2.1
def TEs.st (es : TEs) : List TEs := (para stA (.inr (.inr es))).2.2
theorem TE.st_mk (d : Nat) (fs : TFs) : TE.st ⟨d, fs⟩ = (TFs.st fs).map (fun fs' => ⟨d, fs'⟩) := by unfold TE.st TFs.st; rw [para_e]; rfl
theorem TFs.st_nil : TFs.st [] = [] := by unfold TFs.st; rw [para_n0]; rfl
theorem TFs.st_cons (f : TF) (fs : TFs) : TFs.st (f :: fs) = f.st.map (fun f' => f' :: fs) ++ (TFs.st fs).map (fun fs' => f :: fs') := by unfold TFs.st TF.st; rw [para_n1]; rfl
theorem TF.st_lt (c : Int) : (TF.lt c).st = [] := by unfold TF.st; rw [para_lt]; rfl
theorem TF.st_nm (c : Int) (e : (TE TF)) : (TF.nm c e).st = e.inn c ++ e.st.map (TF.nm c) := by unfold TF.st TE.st; rw [para_nm]; rfl
theorem TF.st_br (o : Int) (es : TEs) : (TF.br o es).st = (List.range (ownN o (TEs.len es))).map (fun k => TF.br o (TEs.del es k)) ++ (TEs.st es).map (TF.br o) := by unfold TF.st TEs.st; rw [para_br]; rfl
theorem TEs.st_nil : TEs.st [] = [] := by unfold TEs.st; rw [para_g0]; rfl
theorem TEs.st_cons (e : (TE TF)) (es : TEs) : TEs.st (e :: es) = e.st.map (fun e' => e' :: es) ++ (TEs.st es).map (fun es' => e :: es') := by unfold TEs.st TE.st; rw [para_g1]; rfl
/-- numbers of a tree: bytes, letters, steps, height, names -/
structure Nu where
  sz : Nat
  wl : Nat
  sn : Nat
  ht : Nat
  nc : Int → Nat
structure Nu.le (a b : Nu) : Prop where
  sz : a.sz ≤ b.sz
  wl : a.wl ≤ b.wl
  sn : a.sn ≤ b.sn
  ht : a.ht ≤ b.ht
  nc : ∀ c, a.nc c ≤ b.nc c
def Nu.zero : Nu := ⟨0, 0, 0, 0, fun _ => 0⟩
def Nu.add (a b : Nu) : Nu := ⟨a.sz + b.sz, a.wl + b.wl, a.sn + b.sn, max a.ht b.ht, fun c => a.nc c + b.nc c⟩
def Nu.more (a : Nu) (k : Nat) : Nu := ⟨a.sz + k, a.wl, a.sn, a.ht, a.nc⟩
def Nu.name (a : Nu) (c : Int) : Nu := ⟨a.sz + 3, a.wl, a.nc c + a.sn, a.ht + 1, fun c' => (if c = c' then 1 else 0) + a.nc c'⟩
def Nu.brk (a : Nu) (o : Int) (n : Nat) : Nu := ⟨a.sz + (if n = 0 then 2 else 1), a.wl, ownN o n + a.sn, a.ht, a.nc⟩
def nuA : Alg Nu where
  e _ _ r := r.more 1
  n0 := .zero
  n1 _ _ r q := r.add q
  lt _ := ⟨1, 1, 0, 0, fun _ => 0⟩
  nm c _ r := r.name c
  br o es r := r.brk o (TEs.len es)
  g0 := .zero
  g1 _ _ r q := (r.more 1).add q
/-- its numbers -/
def TE.nu (e : (TE TF)) : Nu := (para nuA (.inl (.inl e)))
def TFs.nu (fs : TFs) : Nu := (para nuA (.inl (.inr fs)))
def TF.nu (f : TF) : Nu := (para nuA (.inr (.inl f)))
def TEs.nu (es : TEs) : Nu := (para nuA (.inr (.inr es)))
theorem TE.nu_mk (d : Nat) (fs : TFs) : TE.nu ⟨d, fs⟩ = (TFs.nu fs).more 1 := by unfold TE.nu TFs.nu; rw [para_e]; rfl
theorem TFs.nu_nil : TFs.nu [] = .zero := by unfold TFs.nu; rw [para_n0]; rfl
theorem TFs.nu_cons (f : TF) (fs : TFs) : TFs.nu (f :: fs) = f.nu.add (TFs.nu fs) := by unfold TFs.nu TF.nu; rw [para_n1]; rfl
theorem TF.nu_lt (c_ : Int) : TF.nu (TF.lt c_) = ⟨1, 1, 0, 0, fun _ => 0⟩ := by unfold TF.nu; rw [para_lt]; rfl
theorem TF.nu_nm (c_ : Int) (e : (TE TF)) : TF.nu (TF.nm c_ e) = e.nu.name c_ := by unfold TF.nu TE.nu; rw [para_nm]; rfl
theorem TF.nu_br (o : Int) (es : TEs) : TF.nu (TF.br o es) = (TEs.nu es).brk o (TEs.len es) := by unfold TF.nu TEs.nu; rw [para_br]; rfl
theorem TEs.nu_nil : TEs.nu [] = .zero := by unfold TEs.nu; rw [para_g0]; rfl
theorem TEs.nu_cons (e : (TE TF)) (es : TEs) : TEs.nu (e :: es) = (e.nu.more 1).add (TEs.nu es) := by unfold TEs.nu TE.nu; rw [para_g1]; rfl
section
theorem Nu.le.rfl {a : Nu} : a.le a := ⟨Nat.le_refl _, Nat.le_refl _, Nat.le_refl _, Nat.le_refl _, fun _ => Nat.le_refl _⟩
theorem Nu.le.trans {a b c : Nu} (h : a.le b) (g : b.le c) : a.le c := ⟨Nat.le_trans h.sz g.sz, Nat.le_trans h.wl g.wl, Nat.le_trans h.sn g.sn, Nat.le_trans h.ht g.ht, fun x => Nat.le_trans (h.nc x) (g.nc x)⟩
theorem Nu.add_l {a b c : Nu} (h : a.le b) : (a.add c).le (b.add c) := ⟨by have := h.sz; simp [Nu.add]; omega, by have := h.wl; simp [Nu.add]; omega, by have := h.sn; simp [Nu.add]; omega, by have := h.ht; simp [Nu.add]; omega, fun x => by have := h.nc x; simp [Nu.add]; omega⟩
theorem Nu.add_r {a b c : Nu} (h : a.le b) : (c.add a).le (c.add b) := ⟨by have := h.sz; simp [Nu.add]; omega, by have := h.wl; simp [Nu.add]; omega, by have := h.sn; simp [Nu.add]; omega, by have := h.ht; simp [Nu.add]; omega, fun x => by have := h.nc x; simp [Nu.add]; omega⟩
theorem Nu.le_add_l (a b : Nu) : a.le (a.add b) := ⟨by simp [Nu.add], by simp [Nu.add], by simp [Nu.add], by simp [Nu.add]; omega, fun x => by simp [Nu.add]⟩
theorem Nu.le_add_r (a b : Nu) : b.le (a.add b) := ⟨by simp [Nu.add], by simp [Nu.add], by simp [Nu.add], by simp [Nu.add]; omega, fun x => by simp [Nu.add]⟩
theorem Nu.le_more (a : Nu) (k : Nat) : a.le (a.more k) := ⟨by simp [Nu.more], Nat.le_refl _, Nat.le_refl _, Nat.le_refl _, fun _ => Nat.le_refl _⟩
theorem Nu.more_le {a b : Nu} (h : a.le b) (k : Nat) : (a.more k).le (b.more k) := ⟨by have := h.sz; simp [Nu.more]; omega, h.wl, h.sn, h.ht, h.nc⟩
theorem Nu.name_le {a b : Nu} (h : a.le b) (c : Int) : (a.name c).le (b.name c) := ⟨by have := h.sz; simp [Nu.name]; omega, h.wl, by have := h.sn; have := h.nc c; simp [Nu.name]; omega, by have := h.ht; simp [Nu.name]; omega, fun x => by have := h.nc x; simp [Nu.name]; omega⟩
theorem Nu.le_name (a : Nu) (c : Int) : a.le (a.name c) := ⟨by simp [Nu.name], Nat.le_refl _, by simp [Nu.name], by simp [Nu.name], fun x => by simp [Nu.name]⟩
theorem Nu.brk_le {a b : Nu} (h : a.le b) (o : Int) (n : Nat) : (a.brk o n).le (b.brk o n) := ⟨by have := h.sz; simp [Nu.brk]; omega, h.wl, by have := h.sn; simp [Nu.brk]; omega, h.ht, h.nc⟩
theorem Nu.le_brk (a : Nu) (o : Int) (n : Nat) : a.le (a.brk o n) := ⟨by simp [Nu.brk], Nat.le_refl _, by simp [Nu.brk], Nat.le_refl _, fun _ => Nat.le_refl _⟩
theorem inn_le_all (c : Int) : (∀ z, (fun (e : (TE TF)) => ∀ (g : TF), g ∈ e.inn c → g.nu.le e.nu) z) ∧ (∀ z, (fun (fs : TFs) => ∀ (g : TF), g ∈ (TFs.inn c fs) → g.nu.le (TFs.nu fs)) z) ∧ (∀ z, (fun (f : TF) => ∀ (g : TF), g ∈ f.inn c → g.nu.le f.nu) z) ∧ (∀ z, (fun (es : TEs) => ∀ (g : TF), g ∈ (TEs.inn c es) → g.nu.le (TEs.nu es)) z) := by
  refine tree_ind ?_ ?_ ?_ ?_ ?_ ?_ ?_ ?_
  · intro _ fs ihfs g h
    simp only [TE.inn_mk] at h
    simp only [TE.nu_mk]
    exact (ihfs g h).trans (Nu.le_more _ _)
  · intro g h
    simp [TFs.inn_nil, TFs.inn_cons] at h
  · intro f fs ihf ihfs g h
    simp only [TFs.inn_nil, TFs.inn_cons, List.mem_append] at h
    simp only [TFs.nu_nil, TFs.nu_cons]
    rcases h with h | h
    · exact (ihf g h).trans (Nu.le_add_l _ _)
    · exact (ihfs g h).trans (Nu.le_add_r _ _)
  · intro _ g h
    simp [TF.inn_lt, TF.inn_nm, TF.inn_br] at h
  · intro c' e ihe g h
    simp only [TF.inn_lt, TF.inn_nm, TF.inn_br, List.mem_append] at h
    rcases h with h | h
    · split at h
      · simp at h; subst h; exact Nu.le.rfl
      · simp at h
    · simp only [TF.nu_lt, TF.nu_nm, TF.nu_br]
      exact (ihe g h).trans (Nu.le_name _ _)
  · intro o es ihes _ g h
    simp only [TF.inn_lt, TF.inn_nm, TF.inn_br] at h
    simp only [TF.nu_lt, TF.nu_nm, TF.nu_br]
    exact (ihes g h).trans (Nu.le_brk _ _ _)
  · intro g h
    simp [TEs.inn_nil, TEs.inn_cons] at h
  · intro e es ihe ihes g h
    simp only [TEs.inn_nil, TEs.inn_cons, List.mem_append] at h
    simp only [TEs.nu_nil, TEs.nu_cons]
    rcases h with h | h
    · exact ((ihe g h).trans (Nu.le_more _ _)).trans (Nu.le_add_l _ _)
    · exact (ihes g h).trans (Nu.le_add_r _ _)
theorem TE.inn_le (c : Int) : ∀ (e : (TE TF)) (g : TF), g ∈ e.inn c → g.nu.le e.nu := (inn_le_all c).1
theorem TFs.inn_le (c : Int) : ∀ (fs : TFs) (g : TF), g ∈ (TFs.inn c fs) → g.nu.le (TFs.nu fs) := (inn_le_all c).2.1
theorem TF.inn_le (c : Int) : ∀ (f g : TF), g ∈ f.inn c → g.nu.le f.nu := (inn_le_all c).2.2.1
theorem TEs.inn_le (c : Int) : ∀ (es : TEs) (g : TF), g ∈ (TEs.inn c es) → g.nu.le (TEs.nu es) := (inn_le_all c).2.2.2
theorem TEs.del_len : ∀ (es : TEs) (k : Nat), k < (TEs.len es) → (TEs.len (TEs.del es k)) + 1 = (TEs.len es)
  | .nil, k, h => by simp [TEs.len] at h
  | .cons e es, 0, h => by simp [TEs.del, TEs.len]
  | .cons e es, k + 1, h => by
    simp only [TEs.len] at h
    simp only [TEs.del, TEs.len]
    rw [TEs.del_len es k (by omega)]
theorem TE.nu_pos : ∀ e : (TE TF), 1 ≤ e.nu.sz
  | .mk _ fs => by simp [TE.nu_mk, Nu.more]
theorem TEs.del_le : ∀ (es : TEs) (k : Nat), k < (TEs.len es) → (TEs.nu (TEs.del es k)).le (TEs.nu es) ∧ (TEs.nu (TEs.del es k)).sz + 2 ≤ (TEs.nu es).sz
  | .nil, k, h => by simp [TEs.len] at h
  | .cons e es, 0, h => by
    simp only [TEs.del, TEs.nu_nil, TEs.nu_cons]
    refine ⟨Nu.le_add_r _ _, ?_⟩
    have := TE.nu_pos e
    simp [Nu.add, Nu.more]; omega
  | .cons e es, k + 1, h => by
    simp only [TEs.len] at h
    obtain ⟨h1, h2⟩ := TEs.del_le es k (by omega)
    simp only [TEs.del, TEs.nu_nil, TEs.nu_cons]
    exact ⟨Nu.add_r h1, by simp [Nu.add]; omega⟩
theorem ownN_mono {o : Int} {n : Nat} (h : 0 < ownN o (n + 1)) : ownN o n ≤ ownN o (n + 1) := by
  unfold ownN at h ⊢
  by_cases h1 : o = 91
  · simp only [if_pos h1] at h ⊢
    split at h
    · split <;> omega
    · omega
  · simp only [if_neg h1] at h ⊢
    by_cases h2 : o = 123
    · simp only [if_pos h2]; omega
    · simp only [if_neg h2]
      split
      · split <;> split <;> omega
      · omega
theorem ownN_le (o : Int) (n : Nat) : ownN o n ≤ n := by
  unfold ownN
  split
  · split <;> omega
  split
  · omega
  split
  · split <;> omega
  · omega
theorem brk_del {o : Int} {es : TEs} {k : Nat} (h : k < (TEs.len es)) (ho : 0 < ownN o (TEs.len es)) : ((TEs.nu (TEs.del es k)).brk o (TEs.len (TEs.del es k))).le ((TEs.nu es).brk o (TEs.len es)) ∧ ((TEs.nu (TEs.del es k)).brk o (TEs.len (TEs.del es k))).sz < ((TEs.nu es).brk o (TEs.len es)).sz := by
  obtain ⟨h1, h2⟩ := TEs.del_le es k h
  have h3 := TEs.del_len es k h
  have h4 := ownN_mono (o := o) (n := (TEs.len (TEs.del es k))) (by rw [h3]; exact ho)
  rw [h3] at h4
  have hs := h1.sn
  refine ⟨⟨?_, h1.wl, by simp [Nu.brk]; omega, h1.ht, h1.nc⟩, ?_⟩
  · simp only [Nu.brk]; split <;> split <;> omega
  · simp only [Nu.brk]; split <;> split <;> omega
theorem st_le_all : (∀ z, (fun (e : (TE TF)) => ∀ (e' : (TE TF)), e' ∈ e.st → e'.nu.le e.nu ∧ e'.nu.sz < e.nu.sz) z) ∧ (∀ z, (fun (fs : TFs) => ∀ (fs' : TFs), fs' ∈ (TFs.st fs) → (TFs.nu fs').le (TFs.nu fs) ∧ (TFs.nu fs').sz < (TFs.nu fs).sz) z) ∧ (∀ z, (fun (f : TF) => ∀ (f' : TF), f' ∈ f.st → f'.nu.le f.nu ∧ f'.nu.sz < f.nu.sz) z) ∧ (∀ z, (fun (es : TEs) => ∀ (es' : TEs), es' ∈ (TEs.st es) → (TEs.nu es').le (TEs.nu es) ∧ (TEs.nu es').sz < (TEs.nu es).sz ∧ (TEs.len es') = (TEs.len es)) z) := by
  refine tree_ind ?_ ?_ ?_ ?_ ?_ ?_ ?_ ?_
  · intro d fs ihfs e' h
    simp only [TE.st_mk, List.mem_map] at h
    obtain ⟨fs', h1, rfl⟩ := h
    obtain ⟨h2, h3⟩ := ihfs fs' h1
    simp only [TE.nu_mk]
    exact ⟨Nu.more_le h2 1, by simp [Nu.more]; omega⟩
  · intro fs' h
    simp [TFs.st_nil, TFs.st_cons] at h
  · intro f fs ihf ihfs fs' h
    simp only [TFs.st_nil, TFs.st_cons, List.mem_append, List.mem_map] at h
    rcases h with ⟨f', h1, rfl⟩ | ⟨g, h1, rfl⟩
    · obtain ⟨h2, h3⟩ := ihf f' h1
      simp only [TFs.nu_nil, TFs.nu_cons]
      exact ⟨Nu.add_l h2, by simp [Nu.add]; omega⟩
    · obtain ⟨h2, h3⟩ := ihfs g h1
      simp only [TFs.nu_nil, TFs.nu_cons]
      exact ⟨Nu.add_r h2, by simp [Nu.add]; omega⟩
  · intro _ f' h
    simp [TF.st_lt, TF.st_nm, TF.st_br] at h
  · intro c e ihe f' h
    simp only [TF.st_lt, TF.st_nm, TF.st_br, List.mem_append, List.mem_map] at h
    simp only [TF.nu_lt, TF.nu_nm, TF.nu_br]
    rcases h with h | ⟨e', h1, rfl⟩
    · have h2 := TE.inn_le c e f' h
      refine ⟨h2.trans (Nu.le_name _ _), ?_⟩
      have := h2.sz
      simp [Nu.name]; omega
    · obtain ⟨h2, h3⟩ := ihe e' h1
      simp only [TF.nu_lt, TF.nu_nm, TF.nu_br]
      exact ⟨Nu.name_le h2 c, by simp [Nu.name]; omega⟩
  · intro o es ihes _ f' h
    simp only [TF.st_lt, TF.st_nm, TF.st_br, List.mem_append, List.mem_map] at h
    rcases h with ⟨k, h1, rfl⟩ | ⟨es', h1, rfl⟩
    · have hk : k < (TEs.len es) := by
        have := ownN_le o (TEs.len es)
        simp at h1; omega
      simp only [TF.nu_lt, TF.nu_nm, TF.nu_br]
      exact brk_del hk (by simp at h1; omega)
    · obtain ⟨h2, h3, h4⟩ := ihes es' h1
      simp only [TF.nu_lt, TF.nu_nm, TF.nu_br]
      rw [h4]
      exact ⟨Nu.brk_le h2 o _, by simp [Nu.brk]; omega⟩
  · intro es' h
    simp [TEs.st_nil, TEs.st_cons] at h
  · intro e es ihe ihes es' h
    simp only [TEs.st_nil, TEs.st_cons, List.mem_append, List.mem_map] at h
    rcases h with ⟨e', h1, rfl⟩ | ⟨g, h1, rfl⟩
    · obtain ⟨h2, h3⟩ := ihe e' h1
      simp only [TEs.nu_nil, TEs.nu_cons, TEs.len]
      exact ⟨Nu.add_l (Nu.more_le h2 1), by simp [Nu.add, Nu.more]; omega, trivial⟩
    · obtain ⟨h2, h3, h4⟩ := ihes g h1
      simp only [TEs.nu_nil, TEs.nu_cons, TEs.len]
      exact ⟨Nu.add_r h2, by simp [Nu.add]; omega, by omega⟩
theorem TE.st_le : ∀ (e e' : (TE TF)), e' ∈ e.st → e'.nu.le e.nu ∧ e'.nu.sz < e.nu.sz := st_le_all.1
theorem TFs.st_le : ∀ (fs fs' : TFs), fs' ∈ (TFs.st fs) → (TFs.nu fs').le (TFs.nu fs) ∧ (TFs.nu fs').sz < (TFs.nu fs).sz := st_le_all.2.1
theorem TF.st_le : ∀ (f f' : TF), f' ∈ f.st → f'.nu.le f.nu ∧ f'.nu.sz < f.nu.sz := st_le_all.2.2.1
theorem TEs.st_le : ∀ (es es' : TEs), es' ∈ (TEs.st es) → (TEs.nu es').le (TEs.nu es) ∧ (TEs.nu es').sz < (TEs.nu es).sz ∧ (TEs.len es') = (TEs.len es) := st_le_all.2.2.2
end
end Go.Proofs.YtnfaiaoipeholaaGreatDoor

namespace Go.Proofs.YtnfaiaoipeholaaGreatDoor
set_option linter.unusedSimpArgs false
set_option linter.unusedVariables false
theorem nu_len_all : (∀ z, (fun (e : (TE TF)) => e.rd.length = e.nu.sz) z) ∧ (∀ z, (fun (fs : TFs) => (TFs.rd fs).length = (TFs.nu fs).sz) z) ∧ (∀ z, (fun (f : TF) => f.rd.length = f.nu.sz) z) ∧ (∀ z, (fun (es : TEs) => (TEs.rt es).length = (TEs.nu es).sz) z) := by
  refine tree_ind ?_ ?_ ?_ ?_ ?_ ?_ ?_ ?_
  · intro _ fs ihfs
    simp [TE.rd_mk, TE.nu_mk, Nu.more, ihfs]
  · simp [TFs.rd_nil, TFs.rd_cons, TFs.nu_nil, TFs.nu_cons, Nu.zero]
  · intro f fs ihf ihfs
    simp [TFs.rd_nil, TFs.rd_cons, TFs.nu_nil, TFs.nu_cons, Nu.add, ihf, ihfs]
  · intro _
    simp [TF.rd_lt, TF.rd_nm, TF.rd_br, TF.nu_lt, TF.nu_nm, TF.nu_br]
  · intro _ e ihe
    simp [TF.rd_lt, TF.rd_nm, TF.rd_br, TF.nu_lt, TF.nu_nm, TF.nu_br, Nu.name, ihe]
  · intro o es _ ihb
    cases es with
    | nil => simp [TF.rd_lt, TF.rd_nm, TF.rd_br, TF.nu_lt, TF.nu_nm, TF.nu_br, TEs.rd_nil, TEs.rd_cons, TEs.nu_nil, TEs.nu_cons, Nu.brk, Nu.zero, TEs.len]
    | cons e es => simp [TF.rd_lt, TF.rd_nm, TF.rd_br, TF.nu_lt, TF.nu_nm, TF.nu_br, TEs.rd_nil, TEs.rd_cons, TEs.nu_nil, TEs.nu_cons, Nu.brk, Nu.add, Nu.more, TEs.len, (ihb _ _ rfl).1, (ihb _ _ rfl).2]; omega
  · simp [TEs.rt_nil, TEs.rt_cons, TEs.nu_nil, TEs.nu_cons, Nu.zero]
  · intro e es ihe ihes
    simp [TEs.rt_nil, TEs.rt_cons, TEs.nu_nil, TEs.nu_cons, Nu.add, Nu.more, ihe, ihes]; omega
theorem TE.nu_len : ∀ e : (TE TF), e.rd.length = e.nu.sz := nu_len_all.1
theorem TFs.nu_len : ∀ fs : TFs, (TFs.rd fs).length = (TFs.nu fs).sz := nu_len_all.2.1
theorem TF.nu_len : ∀ f : TF, f.rd.length = f.nu.sz := nu_len_all.2.2.1
theorem TEs.nu_len : ∀ es : TEs, (TEs.rt es).length = (TEs.nu es).sz := nu_len_all.2.2.2
theorem nu_ht_all : (∀ z, (fun (e : (TE TF)) => e.ht = e.nu.ht) z) ∧ (∀ z, (fun (fs : TFs) => (TFs.ht fs) = (TFs.nu fs).ht) z) ∧ (∀ z, (fun (f : TF) => f.ht = f.nu.ht) z) ∧ (∀ z, (fun (es : TEs) => (TEs.ht es) = (TEs.nu es).ht) z) := by
  refine tree_ind ?_ ?_ ?_ ?_ ?_ ?_ ?_ ?_
  · intro _ fs ihfs
    simp [TE.ht_mk, TE.nu_mk, Nu.more, ihfs]
  · simp [TFs.ht_nil, TFs.ht_cons, TFs.nu_nil, TFs.nu_cons, Nu.zero]
  · intro f fs ihf ihfs
    simp [TFs.ht_nil, TFs.ht_cons, TFs.nu_nil, TFs.nu_cons, Nu.add, ihf, ihfs]
  · intro _
    simp [TF.ht_lt, TF.ht_nm, TF.ht_br, TF.nu_lt, TF.nu_nm, TF.nu_br]
  · intro _ e ihe
    simp [TF.ht_lt, TF.ht_nm, TF.ht_br, TF.nu_lt, TF.nu_nm, TF.nu_br, Nu.name, ihe]
  · intro _ es ihes _
    simp [TF.ht_lt, TF.ht_nm, TF.ht_br, TF.nu_lt, TF.nu_nm, TF.nu_br, Nu.brk, ihes]
  · simp [TEs.ht_nil, TEs.ht_cons, TEs.nu_nil, TEs.nu_cons, Nu.zero]
  · intro e es ihe ihes
    simp [TEs.ht_nil, TEs.ht_cons, TEs.nu_nil, TEs.nu_cons, Nu.add, Nu.more, ihe, ihes]
theorem TE.nu_ht : ∀ e : (TE TF), e.ht = e.nu.ht := nu_ht_all.1
theorem TFs.nu_ht : ∀ fs : TFs, (TFs.ht fs) = (TFs.nu fs).ht := nu_ht_all.2.1
theorem TF.nu_ht : ∀ f : TF, f.ht = f.nu.ht := nu_ht_all.2.2.1
theorem TEs.nu_ht : ∀ es : TEs, (TEs.ht es) = (TEs.nu es).ht := nu_ht_all.2.2.2
theorem nu_nc_all (c : Int) : (∀ z, (fun (e : (TE TF)) => (e.inn c).length = e.nu.nc c) z) ∧ (∀ z, (fun (fs : TFs) => ((TFs.inn c fs)).length = (TFs.nu fs).nc c) z) ∧ (∀ z, (fun (f : TF) => (f.inn c).length = f.nu.nc c) z) ∧ (∀ z, (fun (es : TEs) => ((TEs.inn c es)).length = (TEs.nu es).nc c) z) := by
  refine tree_ind ?_ ?_ ?_ ?_ ?_ ?_ ?_ ?_
  · intro _ fs ihfs
    simp [TE.inn_mk, TE.nu_mk, Nu.more, ihfs]
  · simp [TFs.inn_nil, TFs.inn_cons, TFs.nu_nil, TFs.nu_cons, Nu.zero]
  · intro f fs ihf ihfs
    simp [TFs.inn_nil, TFs.inn_cons, TFs.nu_nil, TFs.nu_cons, Nu.add, ihf, ihfs]
  · intro _
    simp [TF.inn_lt, TF.inn_nm, TF.inn_br, TF.nu_lt, TF.nu_nm, TF.nu_br]
  · intro c' e ihe
    simp only [TF.inn_lt, TF.inn_nm, TF.inn_br, TF.nu_lt, TF.nu_nm, TF.nu_br, Nu.name, List.length_append, ihe]
    split <;> simp
  · intro _ es ihes _
    simp [TF.inn_lt, TF.inn_nm, TF.inn_br, TF.nu_lt, TF.nu_nm, TF.nu_br, Nu.brk, ihes]
  · simp [TEs.inn_nil, TEs.inn_cons, TEs.nu_nil, TEs.nu_cons, Nu.zero]
  · intro e es ihe ihes
    simp [TEs.inn_nil, TEs.inn_cons, TEs.nu_nil, TEs.nu_cons, Nu.add, Nu.more, ihe, ihes]
theorem TE.nu_nc (c : Int) : ∀ e : (TE TF), (e.inn c).length = e.nu.nc c := (nu_nc_all c).1
theorem TFs.nu_nc (c : Int) : ∀ fs : TFs, ((TFs.inn c fs)).length = (TFs.nu fs).nc c := (nu_nc_all c).2.1
theorem TF.nu_nc (c : Int) : ∀ f : TF, (f.inn c).length = f.nu.nc c := (nu_nc_all c).2.2.1
theorem TEs.nu_nc (c : Int) : ∀ es : TEs, ((TEs.inn c es)).length = (TEs.nu es).nc c := (nu_nc_all c).2.2.2
theorem nu_sn_all : (∀ z, (fun (e : (TE TF)) => e.st.length = e.nu.sn) z) ∧ (∀ z, (fun (fs : TFs) => (TFs.st fs).length = (TFs.nu fs).sn) z) ∧ (∀ z, (fun (f : TF) => f.st.length = f.nu.sn) z) ∧ (∀ z, (fun (es : TEs) => (TEs.st es).length = (TEs.nu es).sn) z) := by
  refine tree_ind ?_ ?_ ?_ ?_ ?_ ?_ ?_ ?_
  · intro _ fs ihfs
    simp [TE.st_mk, TE.nu_mk, Nu.more, ihfs]
  · simp [TFs.st_nil, TFs.st_cons, TFs.nu_nil, TFs.nu_cons, Nu.zero]
  · intro f fs ihf ihfs
    simp [TFs.st_nil, TFs.st_cons, TFs.nu_nil, TFs.nu_cons, Nu.add, ihf, ihfs]
  · intro _
    simp [TF.st_lt, TF.st_nm, TF.st_br, TF.nu_lt, TF.nu_nm, TF.nu_br]
  · intro c e ihe
    simp [TF.st_lt, TF.st_nm, TF.st_br, TF.nu_lt, TF.nu_nm, TF.nu_br, Nu.name, ihe, TE.nu_nc c e]
  · intro _ es ihes _
    simp [TF.st_lt, TF.st_nm, TF.st_br, TF.nu_lt, TF.nu_nm, TF.nu_br, Nu.brk, ihes]
  · simp [TEs.st_nil, TEs.st_cons, TEs.nu_nil, TEs.nu_cons, Nu.zero]
  · intro e es ihe ihes
    simp [TEs.st_nil, TEs.st_cons, TEs.nu_nil, TEs.nu_cons, Nu.add, Nu.more, ihe, ihes]
theorem TE.nu_sn : ∀ e : (TE TF), e.st.length = e.nu.sn := nu_sn_all.1
theorem TFs.nu_sn : ∀ fs : TFs, (TFs.st fs).length = (TFs.nu fs).sn := nu_sn_all.2.1
theorem TF.nu_sn : ∀ f : TF, f.st.length = f.nu.sn := nu_sn_all.2.2.1
theorem TEs.nu_sn : ∀ es : TEs, (TEs.st es).length = (TEs.nu es).sn := nu_sn_all.2.2.2
section
variable {s : ByteArray}
theorem let_no {c : Int} {L : List Int} (h : cL c = false) : ((c :: L).filter fun c => cL c) = L.filter fun c => cL c := List.filter_cons_of_neg (by simpa using h)
theorem nm_let {c : Int} (h : cN c = true) : cL c = false := by
  have hv : 65 ≤ c ∧ c ≤ 90 := by simpa [cN] using h
  simp [cL]; omega
theorem op_let {c : Int} (h : cO c = true) : cL c = false := by
  have := cO_vals h
  simp [cL]; omega
theorem cl_let (c : Int) : cL (cC c) = false := by
  rcases cC_vals c with h | h | h | h | h <;> rw [h] <;> decide
theorem nu_wl_all : (∀ z, (fun (e : (TE TF)) => ∀ (x : Nat), e.ok s x → (e.rd.filter fun c => cL c).length = e.nu.wl) z) ∧ (∀ z, (fun (fs : TFs) => ∀ (l : List Nat), (TFs.ok s fs) l → ((TFs.rd fs).filter fun c => cL c).length = (TFs.nu fs).wl) z) ∧ (∀ z, (fun (f : TF) => ∀ (p : Nat), f.ok s p → (f.rd.filter fun c => cL c).length = f.nu.wl) z) ∧ (∀ z, (fun (es : TEs) => ∀ (x : Nat), (TEs.ok s es) x → ((TEs.rt es).filter fun c => cL c).length = (TEs.nu es).wl) z) := by
  refine tree_ind ?_ ?_ ?_ ?_ ?_ ?_ ?_ ?_
  · intro d fs ihfs x h
    simp only [TE.ok_mk] at h
    obtain ⟨hd, a, _, h2⟩ := h
    simp only [TE.rd_mk, TE.nu_mk, Nu.more]
    rw [let_no (by simp [cL]; omega), ihfs _ h2]
  · intro l h
    simp [TFs.rd_nil, TFs.rd_cons, TFs.nu_nil, TFs.nu_cons, Nu.zero]
  · intro f fs ihf ihfs l h
    simp only [TFs.ok_nil, TFs.ok_cons] at h
    obtain ⟨p, q, _, h1, h2⟩ := h
    simp only [TFs.rd_nil, TFs.rd_cons, TFs.nu_nil, TFs.nu_cons, Nu.add, List.filter_append, List.length_append]
    rw [ihf p h1, ihfs q h2]
  · intro c p h
    simp only [TF.ok_lt, TF.ok_nm, TF.ok_br] at h
    obtain ⟨h1, h2⟩ := h
    simp only [TF.rd_lt, TF.rd_nm, TF.rd_br, TF.nu_lt, TF.nu_nm, TF.nu_br]
    rw [List.filter_cons_of_pos (by rw [h2]; simpa using h1)]; rfl
  · intro c e ihe p h
    simp only [TF.ok_lt, TF.ok_nm, TF.ok_br] at h
    obtain ⟨h1, h2, h3⟩ := h
    simp only [TF.rd_lt, TF.rd_nm, TF.rd_br, TF.nu_lt, TF.nu_nm, TF.nu_br, Nu.name]
    rw [let_no (by rw [h2]; exact nm_let h1), let_no (by decide), List.filter_append, List.length_append, ihe _ h3]
    simp [cL]
  · intro o es _ ihb p h
    simp only [TF.ok_lt, TF.ok_nm, TF.ok_br] at h
    obtain ⟨h1, h2, _, h3⟩ := h
    simp only [TF.rd_lt, TF.rd_nm, TF.rd_br, TF.nu_lt, TF.nu_nm, TF.nu_br, Nu.brk]
    rw [let_no (by rw [h2]; exact op_let h1), List.filter_append, List.length_append]
    have hcl : ([cC o].filter fun c => cL c) = [] := by rw [let_no (cl_let o)]; rfl
    rw [hcl]
    cases es with
    | nil => simp [TEs.rd_nil, TEs.rd_cons, TEs.nu_nil, TEs.nu_cons, Nu.zero]
    | cons e es =>
      simp only [TEs.ok_nil, TEs.ok_cons] at h3
      simp only [TEs.rd_nil, TEs.rd_cons, TEs.nu_nil, TEs.nu_cons, Nu.add, Nu.more, List.filter_append, List.length_append, List.length_nil]
      rw [(ihb _ _ rfl).1 _ h3.1, (ihb _ _ rfl).2 _ h3.2]; rfl
  · intro x h
    simp [TEs.rt_nil, TEs.rt_cons, TEs.nu_nil, TEs.nu_cons, Nu.zero]
  · intro e es ihe ihes x h
    simp only [TEs.ok_nil, TEs.ok_cons] at h
    simp only [TEs.rt_nil, TEs.rt_cons, TEs.nu_nil, TEs.nu_cons, Nu.add, Nu.more]
    rw [let_no (by decide), List.filter_append, List.length_append, ihe _ h.1, ihes _ h.2]
theorem TE.nu_wl : ∀ (e : (TE TF)) (x : Nat), e.ok s x → (e.rd.filter fun c => cL c).length = e.nu.wl := nu_wl_all.1
theorem TFs.nu_wl : ∀ (fs : TFs) (l : List Nat), (TFs.ok s fs) l → ((TFs.rd fs).filter fun c => cL c).length = (TFs.nu fs).wl := nu_wl_all.2.1
theorem TF.nu_wl : ∀ (f : TF) (p : Nat), f.ok s p → (f.rd.filter fun c => cL c).length = f.nu.wl := nu_wl_all.2.2.1
theorem TEs.nu_wl : ∀ (es : TEs) (x : Nat), (TEs.ok s es) x → ((TEs.rt es).filter fun c => cL c).length = (TEs.nu es).wl := nu_wl_all.2.2.2
theorem inn_ok_all (c : Int) : (∀ z, (fun (e : (TE TF)) => ∀ (x : Nat) (g : TF), e.ok s x → g ∈ e.inn c → ∀ p : Nat, cN (bt s p) = true → bt s p = c → g.ok s p) z) ∧ (∀ z, (fun (fs : TFs) => ∀ (l : List Nat) (g : TF), (TFs.ok s fs) l → g ∈ (TFs.inn c fs) → ∀ p : Nat, cN (bt s p) = true → bt s p = c → g.ok s p) z) ∧ (∀ z, (fun (f : TF) => ∀ (p' : Nat) (g : TF), f.ok s p' → g ∈ f.inn c → ∀ p : Nat, cN (bt s p) = true → bt s p = c → g.ok s p) z) ∧ (∀ z, (fun (es : TEs) => ∀ (x : Nat) (g : TF), (TEs.ok s es) x → g ∈ (TEs.inn c es) → ∀ p : Nat, cN (bt s p) = true → bt s p = c → g.ok s p) z) := by
  refine tree_ind ?_ ?_ ?_ ?_ ?_ ?_ ?_ ?_
  · intro d fs ihfs x g h hg p hp hc
    simp only [TE.ok_mk] at h
    obtain ⟨_, a, _, h2⟩ := h
    simp only [TE.inn_mk] at hg
    exact ihfs _ g h2 hg p hp hc
  · intro l g h hg p hp hc
    simp [TFs.inn_nil, TFs.inn_cons] at hg
  · intro f fs ihf ihfs l g h hg p hp hc
    simp only [TFs.ok_nil, TFs.ok_cons] at h
    obtain ⟨p', q', _, h1, h2⟩ := h
    simp only [TFs.inn_nil, TFs.inn_cons, List.mem_append] at hg
    rcases hg with hg | hg
    · exact ihf p' g h1 hg p hp hc
    · exact ihfs q' g h2 hg p hp hc
  · intro _ p' g h hg p hp hc
    simp [TF.inn_lt, TF.inn_nm, TF.inn_br] at hg
  · intro c' e ihe p' g h hg p hp hc
    simp only [TF.ok_lt, TF.ok_nm, TF.ok_br] at h
    obtain ⟨h1, h2, h3⟩ := h
    simp only [TF.inn_lt, TF.inn_nm, TF.inn_br, List.mem_append] at hg
    rcases hg with hg | hg
    · split at hg
      · rename_i hcc
        simp at hg
        subst hg
        simp only [TF.ok_lt, TF.ok_nm, TF.ok_br]
        refine ⟨hp, by omega, ?_⟩
        rw [show bt s p = bt s p' by omega]; exact h3
      · simp at hg
    · exact ihe _ g h3 hg p hp hc
  · intro o es ihes _ p' g h hg p hp hc
    simp only [TF.ok_lt, TF.ok_nm, TF.ok_br] at h
    obtain ⟨_, _, _, h3⟩ := h
    simp only [TF.inn_lt, TF.inn_nm, TF.inn_br] at hg
    exact ihes _ g h3 hg p hp hc
  · intro x g h hg p hp hc
    simp [TEs.inn_nil, TEs.inn_cons] at hg
  · intro e es ihe ihes x g h hg p hp hc
    simp only [TEs.ok_nil, TEs.ok_cons] at h
    simp only [TEs.inn_nil, TEs.inn_cons, List.mem_append] at hg
    rcases hg with hg | hg
    · exact ihe x g h.1 hg p hp hc
    · exact ihes x g h.2 hg p hp hc
theorem TE.inn_ok (c : Int) : ∀ (e : (TE TF)) (x : Nat) (g : TF), e.ok s x → g ∈ e.inn c → ∀ p : Nat, cN (bt s p) = true → bt s p = c → g.ok s p := (inn_ok_all c).1
theorem TFs.inn_ok (c : Int) : ∀ (fs : TFs) (l : List Nat) (g : TF), (TFs.ok s fs) l → g ∈ (TFs.inn c fs) → ∀ p : Nat, cN (bt s p) = true → bt s p = c → g.ok s p := (inn_ok_all c).2.1
theorem TF.inn_ok (c : Int) : ∀ (f : TF) (p' : Nat) (g : TF), f.ok s p' → g ∈ f.inn c → ∀ p : Nat, cN (bt s p) = true → bt s p = c → g.ok s p := (inn_ok_all c).2.2.1
theorem TEs.inn_ok (c : Int) : ∀ (es : TEs) (x : Nat) (g : TF), (TEs.ok s es) x → g ∈ (TEs.inn c es) → ∀ p : Nat, cN (bt s p) = true → bt s p = c → g.ok s p := (inn_ok_all c).2.2.2
theorem TEs.del_ok : ∀ (es : TEs) (k x : Nat), (TEs.ok s es) x → (TEs.ok s (TEs.del es k)) x
  | .nil, k, x, h => by simp [TEs.del, TEs.ok_nil, TEs.ok_cons]
  | .cons e es, 0, x, h => by simp only [TEs.ok_nil, TEs.ok_cons] at h; simp only [TEs.del]; exact h.2
  | .cons e es, k + 1, x, h => by
    simp only [TEs.ok_nil, TEs.ok_cons] at h
    simp only [TEs.del, TEs.ok_nil, TEs.ok_cons]
    exact ⟨h.1, TEs.del_ok es k x h.2⟩
theorem okN_del {o : Int} {n : Nat} (h : 0 < ownN o (n + 1)) : okN o n := by
  unfold ownN at h
  refine ⟨fun e => ?_, fun e => ?_, fun e => ?_⟩
  · subst e; simp at h
  · subst e
    simp only [if_true] at h
    split at h <;> omega
  · subst e
    simp at h
    split at h <;> omega
theorem st_ok_all : (∀ z, (fun (e : (TE TF)) => ∀ (e' : (TE TF)) (x : Nat), e.ok s x → e' ∈ e.st → e'.ok s x) z) ∧ (∀ z, (fun (fs : TFs) => ∀ (fs' : TFs) (l : List Nat), (TFs.ok s fs) l → fs' ∈ (TFs.st fs) → (TFs.ok s fs') l) z) ∧ (∀ z, (fun (f : TF) => ∀ (f' : TF) (p : Nat), f.ok s p → f' ∈ f.st → f'.ok s p) z) ∧ (∀ z, (fun (es : TEs) => ∀ (es' : TEs) (x : Nat), (TEs.ok s es) x → es' ∈ (TEs.st es) → (TEs.ok s es') x) z) := by
  refine tree_ind ?_ ?_ ?_ ?_ ?_ ?_ ?_ ?_
  · intro d fs ihfs e' x h he
    simp only [TE.st_mk, List.mem_map] at he
    obtain ⟨fs', h1, rfl⟩ := he
    simp only [TE.ok_mk] at h ⊢
    obtain ⟨hd, a, ha, h2⟩ := h
    exact ⟨hd, a, ha, ihfs fs' _ h2 h1⟩
  · intro fs' l h he
    simp [TFs.st_nil, TFs.st_cons] at he
  · intro f fs ihf ihfs fs' l h he
    simp only [TFs.ok_nil, TFs.ok_cons] at h
    obtain ⟨p, q, hl, h1, h2⟩ := h
    simp only [TFs.st_nil, TFs.st_cons, List.mem_append, List.mem_map] at he
    rcases he with ⟨f', g1, rfl⟩ | ⟨g, g1, rfl⟩
    · simp only [TFs.ok_nil, TFs.ok_cons]; exact ⟨p, q, hl, ihf f' p h1 g1, h2⟩
    · simp only [TFs.ok_nil, TFs.ok_cons]; exact ⟨p, q, hl, h1, ihfs g q h2 g1⟩
  · intro _ f' p h he
    simp [TF.st_lt, TF.st_nm, TF.st_br] at he
  · intro c e ihe f' p h he
    simp only [TF.ok_lt, TF.ok_nm, TF.ok_br] at h
    obtain ⟨h1, h2, h3⟩ := h
    simp only [TF.st_lt, TF.st_nm, TF.st_br, List.mem_append, List.mem_map] at he
    rcases he with he | ⟨e', g1, rfl⟩
    · exact TE.inn_ok c e _ f' h3 he p h1 h2.symm
    · simp only [TF.ok_lt, TF.ok_nm, TF.ok_br]; exact ⟨h1, h2, ihe e' _ h3 g1⟩
  · intro o es ihes _ f' p h he
    simp only [TF.ok_lt, TF.ok_nm, TF.ok_br] at h
    obtain ⟨h1, h2, h3, h4⟩ := h
    simp only [TF.st_lt, TF.st_nm, TF.st_br, List.mem_append, List.mem_map] at he
    rcases he with ⟨k, g1, rfl⟩ | ⟨es', g1, rfl⟩
    · have hk : k < ownN o (TEs.len es) := by simpa using g1
      have hk' : k < (TEs.len es) := Nat.lt_of_lt_of_le hk (ownN_le _ _)
      simp only [TF.ok_lt, TF.ok_nm, TF.ok_br]
      refine ⟨h1, h2, okN_del (by rw [TEs.del_len es k hk']; omega), TEs.del_ok es k _ h4⟩
    · simp only [TF.ok_lt, TF.ok_nm, TF.ok_br]
      rw [(TEs.st_le es es' g1).2.2]
      exact ⟨h1, h2, h3, ihes es' _ h4 g1⟩
  · intro es' x h he
    simp [TEs.st_nil, TEs.st_cons] at he
  · intro e es ihe ihes es' x h he
    simp only [TEs.ok_nil, TEs.ok_cons] at h
    simp only [TEs.st_nil, TEs.st_cons, List.mem_append, List.mem_map] at he
    rcases he with ⟨e', g1, rfl⟩ | ⟨g, g1, rfl⟩
    · simp only [TEs.ok_nil, TEs.ok_cons]; exact ⟨ihe e' x h.1 g1, h.2⟩
    · simp only [TEs.ok_nil, TEs.ok_cons]; exact ⟨h.1, ihes g x h.2 g1⟩
theorem TE.st_ok : ∀ (e e' : (TE TF)) (x : Nat), e.ok s x → e' ∈ e.st → e'.ok s x := st_ok_all.1
theorem TFs.st_ok : ∀ (fs fs' : TFs) (l : List Nat), (TFs.ok s fs) l → fs' ∈ (TFs.st fs) → (TFs.ok s fs') l := st_ok_all.2.1
theorem TF.st_ok : ∀ (f f' : TF) (p : Nat), f.ok s p → f' ∈ f.st → f'.ok s p := st_ok_all.2.2.1
theorem TEs.st_ok : ∀ (es es' : TEs) (x : Nat), (TEs.ok s es) x → es' ∈ (TEs.st es) → (TEs.ok s es') x := st_ok_all.2.2.2
end
end Go.Proofs.YtnfaiaoipeholaaGreatDoor

namespace Go.Proofs.YtnfaiaoipeholaaGreatDoor
set_option linter.unusedSimpArgs false
set_option linter.unusedVariables false
def ntA : Alg (Nat × Nat) where
  e _ _ r := r
  n0 := (0, 0)
  n1 _ _ r q := (r.1 + q.1, r.2 + q.2)
  lt _ := (0, 0)
  nm _ _ r := (r.1 + 1, r.2)
  br o es r := (r.1, ownN o (TEs.len es) + r.2)
  g0 := (0, 0)
  g1 _ _ r q := (r.1 + q.1, r.2 + q.2)
/-- how many names; how many steps brackets have of their own -/
def TE.nt (e : (TE TF)) : Nat × Nat := (para ntA (.inl (.inl e)))
def TFs.nt (fs : TFs) : Nat × Nat := (para ntA (.inl (.inr fs)))
def TF.nt (f : TF) : Nat × Nat := (para ntA (.inr (.inl f)))
def TEs.nt (es : TEs) : Nat × Nat := (para ntA (.inr (.inr es)))
theorem TE.nt_mk (d : Nat) (fs : TFs) : TE.nt ⟨d, fs⟩ = TFs.nt fs := by unfold TE.nt TFs.nt; rw [para_e]; rfl
theorem TFs.nt_nil : TFs.nt [] = (0, 0) := by unfold TFs.nt; rw [para_n0]; rfl
theorem TFs.nt_cons (f : TF) (fs : TFs) : TFs.nt (f :: fs) = (f.nt.1 + (TFs.nt fs).1, f.nt.2 + (TFs.nt fs).2) := by unfold TFs.nt TF.nt; rw [para_n1]; rfl
theorem TF.nt_lt (c_ : Int) : TF.nt (TF.lt c_) = (0, 0) := by unfold TF.nt; rw [para_lt]; rfl
theorem TF.nt_nm (c_ : Int) (e : (TE TF)) : TF.nt (TF.nm c_ e) = (e.nt.1 + 1, e.nt.2) := by unfold TF.nt TE.nt; rw [para_nm]; rfl
theorem TF.nt_br (o : Int) (es : TEs) : TF.nt (TF.br o es) = ((TEs.nt es).1, ownN o (TEs.len es) + (TEs.nt es).2) := by unfold TF.nt TEs.nt; rw [para_br]; rfl
theorem TEs.nt_nil : TEs.nt [] = (0, 0) := by unfold TEs.nt; rw [para_g0]; rfl
theorem TEs.nt_cons (e : (TE TF)) (es : TEs) : TEs.nt (e :: es) = (e.nt.1 + (TEs.nt es).1, e.nt.2 + (TEs.nt es).2) := by unfold TEs.nt TE.nt; rw [para_g1]; rfl
/-- what holds of these numbers -/
structure Nb (u : Nu) (n : Nat × Nat) : Prop where
  nc : ∀ c, u.nc c ≤ n.1
  sn : u.sn ≤ u.ht * n.1 + n.2
theorem Nb.add {u v : Nu} {n m : Nat × Nat} (h : Nb u n) (g : Nb v m) : Nb (u.add v) (n.1 + m.1, n.2 + m.2) := by
  refine ⟨fun c => by have := h.nc c; have := g.nc c; simp [Nu.add]; omega, ?_⟩
  have h1 := h.sn
  have g1 := g.sn
  have a1 : u.ht * n.1 ≤ max u.ht v.ht * n.1 := Nat.mul_le_mul_right _ (Nat.le_max_left _ _)
  have a2 : v.ht * m.1 ≤ max u.ht v.ht * m.1 := Nat.mul_le_mul_right _ (Nat.le_max_right _ _)
  simp only [Nu.add]
  rw [Nat.mul_add]
  omega
theorem nb_all : (∀ z, (fun (e : (TE TF)) => Nb e.nu e.nt) z) ∧ (∀ z, (fun (fs : TFs) => Nb (TFs.nu fs) (TFs.nt fs)) z) ∧ (∀ z, (fun (f : TF) => Nb f.nu f.nt) z) ∧ (∀ z, (fun (es : TEs) => Nb (TEs.nu es) (TEs.nt es)) z) := by
  refine tree_ind ?_ ?_ ?_ ?_ ?_ ?_ ?_ ?_
  · intro _ fs ihfs
    have h := ihfs
    simp only [TE.nu_mk, TE.nt_mk]
    exact ⟨h.nc, h.sn⟩
  · simp only [TFs.nu_nil, TFs.nu_cons, TFs.nt_nil, TFs.nt_cons]; exact ⟨fun _ => Nat.le_refl _, by simp [Nu.zero]⟩
  · intro f fs ihf ihfs
    simp only [TFs.nu_nil, TFs.nu_cons, TFs.nt_nil, TFs.nt_cons]; exact (ihf).add (ihfs)
  · intro _
    simp only [TF.nu_lt, TF.nu_nm, TF.nu_br, TF.nt_lt, TF.nt_nm, TF.nt_br]; exact ⟨fun _ => Nat.le_refl _, by simp⟩
  · intro c e ihe
    have h := ihe
    simp only [TF.nu_lt, TF.nu_nm, TF.nu_br, TF.nt_lt, TF.nt_nm, TF.nt_br]
    refine ⟨fun c' => by have := h.nc c'; simp only [Nu.name]; split <;> omega, ?_⟩
    have h1 := h.sn
    have h2 := h.nc c
    simp only [Nu.name]
    have h3 : (e.nu.ht + 1) * (e.nt.1 + 1) = e.nu.ht * e.nt.1 + e.nu.ht + e.nt.1 + 1 := by
      rw [Nat.add_mul, Nat.mul_add]; omega
    omega
  · intro o es ihes _
    have h := ihes
    simp only [TF.nu_lt, TF.nu_nm, TF.nu_br, TF.nt_lt, TF.nt_nm, TF.nt_br]
    have h1 := h.sn
    exact ⟨h.nc, by simp only [Nu.brk]; omega⟩
  · simp only [TEs.nu_nil, TEs.nu_cons, TEs.nt_nil, TEs.nt_cons]; exact ⟨fun _ => Nat.le_refl _, by simp [Nu.zero]⟩
  · intro e es ihe ihes
    have h := ihe
    have h' : Nb (e.nu.more 1) e.nt := ⟨h.nc, h.sn⟩
    simp only [TEs.nu_nil, TEs.nu_cons, TEs.nt_nil, TEs.nt_cons]
    exact h'.add (ihes)
theorem TE.nb : ∀ e : (TE TF), Nb e.nu e.nt := nb_all.1
theorem TFs.nb : ∀ fs : TFs, Nb (TFs.nu fs) (TFs.nt fs) := nb_all.2.1
theorem TF.nb : ∀ f : TF, Nb f.nu f.nt := nb_all.2.2.1
theorem TEs.nb : ∀ es : TEs, Nb (TEs.nu es) (TEs.nt es) := nb_all.2.2.2
theorem sb_all : (∀ z, (fun (e : (TE TF)) => 4 * e.nt.1 + 2 * e.nt.2 + 1 ≤ e.nu.sz) z) ∧ (∀ z, (fun (fs : TFs) => 4 * (TFs.nt fs).1 + 2 * (TFs.nt fs).2 ≤ (TFs.nu fs).sz) z) ∧ (∀ z, (fun (f : TF) => 4 * f.nt.1 + 2 * f.nt.2 ≤ f.nu.sz) z) ∧ (∀ z, (fun (es : TEs) => 4 * (TEs.nt es).1 + 2 * (TEs.nt es).2 + 2 * (TEs.len es) ≤ (TEs.nu es).sz) z) := by
  refine tree_ind ?_ ?_ ?_ ?_ ?_ ?_ ?_ ?_
  · intro _ fs ihfs
    have := ihfs; simp only [TE.nu_mk, TE.nt_mk, Nu.more]; omega
  · simp [TFs.nt_nil, TFs.nt_cons]
  · intro f fs ihf ihfs
    have := ihf; have := ihfs; simp only [TFs.nu_nil, TFs.nu_cons, TFs.nt_nil, TFs.nt_cons, Nu.add]; omega
  · intro _
    simp [TF.nt_lt, TF.nt_nm, TF.nt_br]
  · intro _ e ihe
    have := ihe; simp only [TF.nu_lt, TF.nu_nm, TF.nu_br, TF.nt_lt, TF.nt_nm, TF.nt_br, Nu.name]; omega
  · intro o es ihes _
    have := ihes; have := ownN_le o (TEs.len es); simp only [TF.nu_lt, TF.nu_nm, TF.nu_br, TF.nt_lt, TF.nt_nm, TF.nt_br, Nu.brk]; omega
  · simp [TEs.nt_nil, TEs.nt_cons, TEs.len]
  · intro e es ihe ihes
    have := ihe; have := ihes; simp only [TEs.nu_nil, TEs.nu_cons, TEs.nt_nil, TEs.nt_cons, TEs.len, Nu.add, Nu.more]; omega
theorem TE.sb : ∀ e : (TE TF), 4 * e.nt.1 + 2 * e.nt.2 + 1 ≤ e.nu.sz := sb_all.1
theorem TFs.sb : ∀ fs : TFs, 4 * (TFs.nt fs).1 + 2 * (TFs.nt fs).2 ≤ (TFs.nu fs).sz := sb_all.2.1
theorem TF.sb : ∀ f : TF, 4 * f.nt.1 + 2 * f.nt.2 ≤ f.nu.sz := sb_all.2.2.1
theorem TEs.sb : ∀ es : TEs, 4 * (TEs.nt es).1 + 2 * (TEs.nt es).2 + 2 * (TEs.len es) ≤ (TEs.nu es).sz := sb_all.2.2.2
end Go.Proofs.YtnfaiaoipeholaaGreatDoor
