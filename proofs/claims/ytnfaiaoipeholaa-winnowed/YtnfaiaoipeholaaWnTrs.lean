/- Trees as trees: what they are written as, how they are read. No Go here. -/
import Derived.Test.YtnfaiaoipeholaaWnInv
namespace Go.Proofs.Ytnfaiaoipeholaa
set_option linter.unusedSimpArgs false
set_option linter.unusedVariables false
/-- a tree of an expression: its number, its factors -/
structure TE (α : Type) where
  d : Nat
  fs : List α
/-- a factor: a letter, a name with its tree, a bracket with its elements -/
structure TF where
  c : Int
  b : Option (Sum (TE TF) (List (TE TF)))
/-- factors -/
abbrev TFs := List TF
/-- elements -/
abbrev TEs := List (TE TF)
abbrev TF.lt (c : Int) : TF := ⟨c, none⟩
abbrev TF.nm (c : Int) (e : TE TF) : TF := ⟨c, some (.inl e)⟩
abbrev TF.br (o : Int) (es : TEs) : TF := ⟨o, some (.inr es)⟩
/-- a part of a tree -/
abbrev Nd := Sum (Sum (TE TF) TFs) (Sum TF TEs)
structure Alg (R : Type) where
  e : Nat → TFs → R → R
  n0 : R
  n1 : TF → TFs → R → R → R
  lt : Int → R
  nm : Int → TE TF → R → R
  br : Int → TEs → R → R
  g0 : R
  g1 : TE TF → TEs → R → R → R
def para {R : Type} (A : Alg R) : Nd → R
  | .inl (.inl ⟨d, fs⟩) => A.e d fs (para A (.inl (.inr fs)))
  | .inl (.inr []) => A.n0
  | .inl (.inr (f :: fs)) => A.n1 f fs (para A (.inr (.inl f))) (para A (.inl (.inr fs)))
  | .inr (.inl ⟨c, none⟩) => A.lt c
  | .inr (.inl ⟨c, some (.inl e)⟩) => A.nm c e (para A (.inl (.inl e)))
  | .inr (.inl ⟨o, some (.inr es)⟩) => A.br o es (para A (.inr (.inr es)))
  | .inr (.inr []) => A.g0
  | .inr (.inr (e :: es)) => A.g1 e es (para A (.inl (.inl e))) (para A (.inr (.inr es)))
section
variable {R : Type} (A : Alg R)
theorem para_e (d fs) : para A (.inl (.inl ⟨d, fs⟩)) = A.e d fs (para A (.inl (.inr fs))) := by conv => lhs; unfold para
theorem para_n0 : para A (.inl (.inr [])) = A.n0 := by conv => lhs; unfold para
theorem para_n1 (f fs) : para A (.inl (.inr (f :: fs))) = A.n1 f fs (para A (.inr (.inl f))) (para A (.inl (.inr fs))) := by conv => lhs; unfold para
theorem para_lt (c) : para A (.inr (.inl (TF.lt c))) = A.lt c := by conv => lhs; unfold para
theorem para_nm (c e) : para A (.inr (.inl (TF.nm c e))) = A.nm c e (para A (.inl (.inl e))) := by conv => lhs; unfold para
theorem para_br (o es) : para A (.inr (.inl (TF.br o es))) = A.br o es (para A (.inr (.inr es))) := by conv => lhs; unfold para
theorem para_g0 : para A (.inr (.inr [])) = A.g0 := by conv => lhs; unfold para
theorem para_g1 (e es) : para A (.inr (.inr (e :: es))) = A.g1 e es (para A (.inl (.inl e))) (para A (.inr (.inr es))) := by conv => lhs; unfold para
end
/-- what holds of a part, by its kind -/
def NdP (PE : TE TF → Prop) (PFs : TFs → Prop) (PF : TF → Prop) (PEs : TEs → Prop) : Nd → Prop
  | .inl (.inl e) => PE e
  | .inl (.inr fs) => PFs fs
  | .inr (.inl f) => PF f
  | .inr (.inr es) => PEs es
section
variable {PE : TE TF → Prop} {PFs : TFs → Prop} {PF : TF → Prop} {PEs : TEs → Prop}
theorem nd_ind (hE : ∀ d fs, PFs fs → PE ⟨d, fs⟩) (n0 : PFs []) (n1 : ∀ f fs, PF f → PFs fs → PFs (f :: fs)) (l : ∀ c, PF (TF.lt c)) (nm : ∀ c e, PE e → PF (TF.nm c e))
    (br : ∀ o es, PEs es → (∀ e es', es = e :: es' → PE e ∧ PEs es') → PF (TF.br o es)) (g0 : PEs []) (g1 : ∀ e es, PE e → PEs es → PEs (e :: es)) : ∀ z : Nd, NdP PE PFs PF PEs z
  | .inl (.inl ⟨d, fs⟩) => hE d fs (nd_ind hE n0 n1 l nm br g0 g1 (.inl (.inr fs)))
  | .inl (.inr []) => n0
  | .inl (.inr (f :: fs)) => n1 f fs (nd_ind hE n0 n1 l nm br g0 g1 (.inr (.inl f))) (nd_ind hE n0 n1 l nm br g0 g1 (.inl (.inr fs)))
  | .inr (.inl ⟨c, none⟩) => l c
  | .inr (.inl ⟨c, some (.inl e)⟩) => nm c e (nd_ind hE n0 n1 l nm br g0 g1 (.inl (.inl e)))
  | .inr (.inl ⟨o, some (.inr [])⟩) => br o [] g0 (fun _ _ h => by cases h)
  | .inr (.inl ⟨o, some (.inr (e :: es))⟩) =>
    have h1 : PE e := nd_ind hE n0 n1 l nm br g0 g1 (.inl (.inl e))
    have h2 : PEs es := nd_ind hE n0 n1 l nm br g0 g1 (.inr (.inr es))
    br o (e :: es) (g1 e es h1 h2) (fun _ _ h => by cases h; exact ⟨h1, h2⟩)
  | .inr (.inr []) => g0
  | .inr (.inr (e :: es)) => g1 e es (nd_ind hE n0 n1 l nm br g0 g1 (.inl (.inl e))) (nd_ind hE n0 n1 l nm br g0 g1 (.inr (.inr es)))
/-- all parts at once -/
theorem tree_ind (hE : ∀ d fs, PFs fs → PE ⟨d, fs⟩) (n0 : PFs []) (n1 : ∀ f fs, PF f → PFs fs → PFs (f :: fs)) (l : ∀ c, PF (TF.lt c)) (nm : ∀ c e, PE e → PF (TF.nm c e))
    (br : ∀ o es, PEs es → (∀ e es', es = e :: es' → PE e ∧ PEs es') → PF (TF.br o es)) (g0 : PEs []) (g1 : ∀ e es, PE e → PEs es → PEs (e :: es)) : (∀ e, PE e) ∧ (∀ fs, PFs fs) ∧ (∀ f, PF f) ∧ (∀ es, PEs es) :=
  ⟨fun e => nd_ind hE n0 n1 l nm br g0 g1 (.inl (.inl e)), fun fs => nd_ind hE n0 n1 l nm br g0 g1 (.inl (.inr fs)), fun f => nd_ind hE n0 n1 l nm br g0 g1 (.inr (.inl f)), fun es => nd_ind hE n0 n1 l nm br g0 g1 (.inr (.inr es))⟩
end
def TEs.len : TEs → Nat
  | .nil => 0
  | .cons _ es => (TEs.len es) + 1
def rdA : Alg (List Int × List Int) where
  e d _ r := ((48 + (d : Int)) :: r.1, [])
  n0 := ([], [])
  n1 _ _ r q := (r.1 ++ q.1, [])
  lt c := ([c], [])
  nm c _ r := (c :: 40 :: (r.1 ++ [41]), [])
  br o _ r := (o :: (r.1 ++ [cC o]), [])
  g0 := ([], [])
  g1 _ _ r q := (r.1 ++ q.2, 44 :: (r.1 ++ q.2))
/-- as it is written -/
def TE.rd (e : (TE TF)) : List Int := (para rdA (.inl (.inl e))).1
def TFs.rd (fs : TFs) : List Int := (para rdA (.inl (.inr fs))).1
def TF.rd (f : TF) : List Int := (para rdA (.inr (.inl f))).1
def TEs.rd (es : TEs) : List Int := (para rdA (.inr (.inr es))).1
/-- further elements -/
def TEs.rt (es : TEs) : List Int := (para rdA (.inr (.inr es))).2
theorem TE.rd_mk (d : Nat) (fs : TFs) : TE.rd ⟨d, fs⟩ = (48 + (d : Int)) :: TFs.rd fs := by unfold TE.rd TFs.rd; rw [para_e]; rfl
theorem TFs.rd_nil : TFs.rd [] = [] := by unfold TFs.rd; rw [para_n0]; rfl
theorem TFs.rd_cons (f : TF) (fs : TFs) : TFs.rd (f :: fs) = f.rd ++ TFs.rd fs := by unfold TFs.rd TF.rd; rw [para_n1]; rfl
theorem TF.rd_lt (c : Int) : (TF.lt c).rd = [c] := by unfold TF.rd; rw [para_lt]; rfl
theorem TF.rd_nm (c : Int) (e : (TE TF)) : (TF.nm c e).rd = c :: 40 :: (e.rd ++ [41]) := by unfold TF.rd TE.rd; rw [para_nm]; rfl
theorem TF.rd_br (o : Int) (es : TEs) : (TF.br o es).rd = o :: (TEs.rd es ++ [cC o]) := by unfold TF.rd TEs.rd; rw [para_br]; rfl
theorem TEs.rd_nil : TEs.rd [] = [] := by unfold TEs.rd; rw [para_g0]; rfl
theorem TEs.rd_cons (e : (TE TF)) (es : TEs) : TEs.rd (e :: es) = e.rd ++ TEs.rt es := by unfold TEs.rd TE.rd TEs.rt; rw [para_g1]; rfl
theorem TEs.rt_nil : TEs.rt [] = [] := by unfold TEs.rt; rw [para_g0]; rfl
theorem TEs.rt_cons (e : (TE TF)) (es : TEs) : TEs.rt (e :: es) = 44 :: (e.rd ++ TEs.rt es) := by unfold TEs.rt TE.rd; rw [para_g1]; rfl
def htA : Alg Nat where
  e _ _ r := r
  n0 := 0
  n1 _ _ r q := max r q
  lt _ := 0
  nm _ _ r := r + 1
  br _ _ r := r
  g0 := 0
  g1 _ _ r q := max r q
/-- how many names stand around one another -/
def TE.ht (e : (TE TF)) : Nat := (para htA (.inl (.inl e)))
def TFs.ht (fs : TFs) : Nat := (para htA (.inl (.inr fs)))
def TF.ht (f : TF) : Nat := (para htA (.inr (.inl f)))
def TEs.ht (es : TEs) : Nat := (para htA (.inr (.inr es)))
theorem TE.ht_mk (d : Nat) (fs : TFs) : TE.ht ⟨d, fs⟩ = TFs.ht fs := by unfold TE.ht TFs.ht; rw [para_e]; rfl
theorem TFs.ht_nil : TFs.ht [] = 0 := by unfold TFs.ht; rw [para_n0]; rfl
theorem TFs.ht_cons (f : TF) (fs : TFs) : TFs.ht (f :: fs) = max f.ht (TFs.ht fs) := by unfold TFs.ht TF.ht; rw [para_n1]; rfl
theorem TF.ht_lt (c_ : Int) : TF.ht (TF.lt c_) = 0 := by unfold TF.ht; rw [para_lt]; rfl
theorem TF.ht_nm (c_ : Int) (e : (TE TF)) : TF.ht (TF.nm c_ e) = e.ht + 1 := by unfold TF.ht TE.ht; rw [para_nm]; rfl
theorem TF.ht_br (o : Int) (es : TEs) : TF.ht (TF.br o es) = TEs.ht es := by unfold TF.ht TEs.ht; rw [para_br]; rfl
theorem TEs.ht_nil : TEs.ht [] = 0 := by unfold TEs.ht; rw [para_g0]; rfl
theorem TEs.ht_cons (e : (TE TF)) (es : TEs) : TEs.ht (e :: es) = max e.ht (TEs.ht es) := by unfold TEs.ht TE.ht; rw [para_g1]; rfl
/-- how many elements a bracket may have -/
def okN (o : Int) (n : Nat) : Prop := (o = 40 → n = 1) ∧ (o = 91 → n ≤ 1) ∧ (o = 60 → 1 ≤ n)
def okA (s : ByteArray) : Alg ((Nat → Prop) × (List Nat → Prop)) where
  e d _ r := (fun x => d ≤ 9 ∧ ∃ a, ap s d x = some a ∧ r.2 (fe s a).1, fun _ => True)
  n0 := (fun _ => True, fun l => l = [])
  n1 _ _ r z := (fun _ => True, fun l => ∃ p q, l = p :: q ∧ r.1 p ∧ z.2 q)
  lt c := (fun p => cL (bt s p) = true ∧ c = bt s p, fun _ => True)
  nm c _ r := (fun p => cN (bt s p) = true ∧ c = bt s p ∧ r.1 (rl s (bt s p) + 2).toNat, fun _ => True)
  br o es r := (fun p => cO (bt s p) = true ∧ o = bt s p ∧ okN o (TEs.len es) ∧ r.1 (p + 1), fun _ => True)
  g0 := (fun _ => True, fun _ => True)
  g1 _ _ r q := (fun x => r.1 x ∧ q.1 x, fun _ => True)
/-- a tree of the expression that begins here -/
def TE.ok (s : ByteArray) (e : (TE TF)) : Nat → Prop := (para (okA s) (.inl (.inl e))).1
def TFs.ok (s : ByteArray) (fs : TFs) : List Nat → Prop := (para (okA s) (.inl (.inr fs))).2
def TF.ok (s : ByteArray) (f : TF) : Nat → Prop := (para (okA s) (.inr (.inl f))).1
def TEs.ok (s : ByteArray) (es : TEs) : Nat → Prop := (para (okA s) (.inr (.inr es))).1
theorem TE.ok_mk (s : ByteArray) (d : Nat) (fs : TFs) (x : Nat) : TE.ok s ⟨d, fs⟩ x = (d ≤ 9 ∧ ∃ a, ap s d x = some a ∧ TFs.ok s fs (fe s a).1) := by unfold TE.ok TFs.ok; rw [para_e]; rfl
theorem TFs.ok_nil (s : ByteArray) (l : List Nat) : TFs.ok s [] l = (l = []) := by unfold TFs.ok; rw [para_n0]; rfl
theorem TFs.ok_cons (s : ByteArray) (f : TF) (fs : TFs) (l : List Nat) : TFs.ok s (f :: fs) l = ∃ p q, l = p :: q ∧ f.ok s p ∧ TFs.ok s fs q := by unfold TFs.ok TF.ok; rw [para_n1]; rfl
theorem TF.ok_lt (s : ByteArray) (c : Int) (p : Nat) : (TF.lt c).ok s p = (cL (bt s p) = true ∧ c = bt s p) := by unfold TF.ok; rw [para_lt]; rfl
theorem TF.ok_nm (s : ByteArray) (c : Int) (e : (TE TF)) (p : Nat) : (TF.nm c e).ok s p = (cN (bt s p) = true ∧ c = bt s p ∧ e.ok s (rl s (bt s p) + 2).toNat) := by unfold TF.ok TE.ok; rw [para_nm]; rfl
theorem TF.ok_br (s : ByteArray) (o : Int) (es : TEs) (p : Nat) : (TF.br o es).ok s p = (cO (bt s p) = true ∧ o = bt s p ∧ okN o (TEs.len es) ∧ TEs.ok s es (p + 1)) := by unfold TF.ok TEs.ok; rw [para_br]; rfl
theorem TEs.ok_nil (s : ByteArray) (x : Nat) : TEs.ok s [] x = True := by unfold TEs.ok; rw [para_g0]; rfl
theorem TEs.ok_cons (s : ByteArray) (e : (TE TF)) (es : TEs) (x : Nat) : TEs.ok s (e :: es) x = (e.ok s x ∧ TEs.ok s es x) := by unfold TEs.ok TE.ok; rw [para_g1]; rfl
section
variable {s t : ByteArray}
theorem TE.rd_pos : ∀ e : (TE TF), 1 ≤ e.rd.length
  | .mk d fs => by simp [TE.rd_mk]
set_option maxHeartbeats 4000000 in
theorem read_all : (∀ z, (fun (e : (TE TF)) => ∀ (n : Nat), ∀ (x i : Nat), e.ok s x → At t i e.rd → e.rd.length ≤ n → pE s t 0 n x i = some (i + e.rd.length, e.ht)) z) ∧ (∀ z, (fun (fs : TFs) => ∀ (n : Nat), ∀ (l : List Nat) (i top : Nat), (∀ f ∈ l, isF s f = true) → (TFs.ok s fs) l → At t i (TFs.rd fs) → (TFs.rd fs).length ≤ n → pFs (pF s t 0 (pE s t 0 n)) l i top = some (i + (TFs.rd fs).length, max top (TFs.ht fs))) z) ∧ (∀ z, (fun (f : TF) => ∀ (n : Nat), ∀ (p i : Nat), isF s p = true → f.ok s p → At t i f.rd → f.rd.length ≤ n → pF s t 0 (pE s t 0 n) p i = some (i + f.rd.length, f.ht)) z) ∧ (∀ z, (fun (es : TEs) => ∀ (n : Nat), ∀ (e : (TE TF)) (hE : ∀ (n x i : Nat), e.ok s x → At t i e.rd → e.rd.length ≤ n → pE s t 0 n x i = some (i + e.rd.length, e.ht)) (x : Nat) (many : Bool) (c : Int) (i m top : Nat) (cnt : Int), cX c = true → e.ok s x → (TEs.ok s es) x → ((TEs.len es) = 0 ∨ many = true) → At t i (e.rd ++ (TEs.rt es) ++ [c]) → e.rd.length + (TEs.rt es).length ≤ n → t.size - i ≤ m → pEl t (pE s t 0 n x) c many 0 m i top cnt = some (i + e.rd.length + (TEs.rt es).length + 1, max top (max e.ht (TEs.ht es)))) z) := by
  refine tree_ind ?_ ?_ ?_ ?_ ?_ ?_ ?_ ?_
  · intro d fs ihfs n x i hv hA hn
    simp only [TE.ok_mk] at hv
    obtain ⟨hd, a, ha, hf⟩ := hv
    simp only [TE.rd_mk, List.length_cons] at hA hn ⊢
    obtain ⟨n', rfl⟩ : ∃ n', n = n' + 1 := ⟨n - 1, by omega⟩
    have hb : bt t i = 48 + (d : Int) := hA.head
    unfold pE
    rw [if_pos (by rw [hb]; simp [cD]; omega), hb, show (48 + (d : Int) - 48).toNat = d by omega, ha]
    simp only
    have := ihfs n' (fe s a).1 (i + 1) 0 (fun f hf => (fe_mem hf).1) hf hA.tail (by omega)
    rw [this]
    simp only [TE.ht_mk]
    congr 2
    · omega
  · intro n l i top hl hv hA hn
    simp only [TFs.ok_nil, TFs.ok_cons] at hv
    subst hv
    simp [pFs, TFs.rd_nil, TFs.rd_cons, TFs.ht_nil, TFs.ht_cons]
  · intro f fs ihf ihfs n l i top hl hv hA hn
    simp only [TFs.ok_nil, TFs.ok_cons] at hv
    obtain ⟨p, q, rfl, h1, h2⟩ := hv
    simp only [TFs.rd_nil, TFs.rd_cons, List.length_append] at hA hn ⊢
    have r1 := ihf n p i (hl p (by simp)) h1 hA.left (by omega)
    have r2 := ihfs n q (i + f.rd.length) (max top f.ht) (fun f' hf => hl f' (by simp [hf])) h2 hA.right (by omega)
    unfold pFs
    rw [r1]
    simp only
    rw [r2]
    simp only [TFs.ht_nil, TFs.ht_cons]
    congr 2
    · omega
    · omega
  · intro c n p i hp hv hA hn
    simp only [TF.ok_lt, TF.ok_nm, TF.ok_br] at hv
    obtain ⟨h1, h2⟩ := hv
    simp only [TF.rd_lt, TF.rd_nm, TF.rd_br] at hA
    unfold pF
    rw [if_neg (by have := hA.head; omega), if_pos h1]
    simp [TF.rd_lt, TF.rd_nm, TF.rd_br, TF.ht_lt, TF.ht_nm, TF.ht_br]
  · intro c e ihe n p i hp hv hA hn
    simp only [TF.ok_lt, TF.ok_nm, TF.ok_br] at hv
    obtain ⟨h1, h2, h3⟩ := hv
    simp only [TF.rd_lt, TF.rd_nm, TF.rd_br, List.length_cons, List.length_append, List.length_nil] at hA hn ⊢
    have hl : ¬ cL (bt s p) = true := by
      have hv : 65 ≤ bt s p ∧ bt s p ≤ 90 := by simpa [cN] using h1
      simp [cL]; omega
    have r := ihe n _ (i + 1 + 1) h3 hA.tail.tail.left (by omega)
    have h40 : bt t ((i + 1 : Nat) : Int) = 40 := hA.tail.head
    have h41 : bt t ((i + 1 + 1 + e.rd.length : Nat) : Int) = 41 := hA.tail.tail.right.head
    unfold pF
    rw [if_neg (by have := hA.head; omega), if_neg hl, if_pos h1]
    unfold pN
    rw [if_neg (by omega), r]
    simp only
    rw [if_pos h41]
    simp only [TF.ht_lt, TF.ht_nm, TF.ht_br]
    congr 2; omega
  · intro o es _ ihb n p i hp hv hA hn
    simp only [TF.ok_lt, TF.ok_nm, TF.ok_br] at hv
    obtain ⟨h1, h2, h3, h4⟩ := hv
    simp only [TF.rd_lt, TF.rd_nm, TF.rd_br, List.length_cons, List.length_append, List.length_nil] at hA hn ⊢
    have hov := cO_vals h1
    have hl : ¬ cL (bt s p) = true := by simp [cL]; omega
    have hnn : ¬ cN (bt s p) = true := by simp [cN]; omega
    have hc0 : cC (bt s p) ≠ 0 := by simpa [cO] using h1
    have hb0 : bt t i = o := hA.head
    unfold pF
    rw [if_neg (by omega), if_neg hl, if_neg hnn]
    unfold pB
    cases es with
    | nil =>
      simp only [TEs.rd_nil, TEs.rd_cons, List.length_nil, List.nil_append, TEs.len] at hA h3 ⊢
      have hcl : bt t ((i + 1 : Nat) : Int) = cC o := hA.tail.head
      obtain ⟨o1, o2, o3⟩ := h3
      rw [if_pos ⟨by rw [hcl, h2], by
        rcases hov with h | h | h | h
        · have := o1 (by rw [h2, h]); omega
        · exact .inl h
        · exact .inr h
        · have := o3 (by rw [h2, h]); omega⟩]
      simp [TF.ht_lt, TF.ht_nm, TF.ht_br, TEs.ht_nil, TEs.ht_cons]
    | cons e es =>
      simp only [TEs.rd_nil, TEs.rd_cons] at hA hn ⊢
      have hA2 := hA.tail
      have hdig : cD (bt t ((i + 1 : Nat) : Int)) = true := by
        cases e with
        | mk d fs =>
          simp only [TEs.ok_nil, TEs.ok_cons, TE.ok_mk] at h4
          simp only [TE.rd_mk] at hA2
          have : bt t ((i + 1 : Nat) : Int) = 48 + (d : Int) := hA2.head
          rw [this]; simp [cD]; omega
      rw [if_neg (fun hh => by
        have h5 : 48 ≤ bt t ((i + 1 : Nat) : Int) ∧ bt t ((i + 1 : Nat) : Int) ≤ 57 := by simpa [cD] using hdig
        have := cC_vals (bt s p)
        omega)]
      have hm : (TEs.len es) = 0 ∨ decide (bt s p = 123 ∨ bt s p = 60) = true := by
        simp only [TEs.len] at h3
        obtain ⟨o1, o2, o3⟩ := h3
        rcases hov with h | h | h | h
        · left; have := o1 (by rw [h2, h]); omega
        · left; have := o2 (by rw [h2, h]); omega
        · right; simp [h]
        · right; simp [h]
      simp only [TEs.ok_nil, TEs.ok_cons] at h4
      have h6 : At t (i + 1) (e.rd ++ (TEs.rt es) ++ [cC (bt s p)]) := by rw [← h2]; exact hA2
      have hlen : (e.rd ++ (TEs.rt es)).length = e.rd.length + (TEs.rt es).length := by simp
      have r := (ihb _ _ rfl).2 n e (ihb _ _ rfl).1 (p + 1) (decide (bt s p = 123 ∨ bt s p = 60)) (cC (bt s p)) (i + 1) (t.size - (i + 1)) 0 0 (cX_cC _ hc0) h4.1 h4.2 hm h6 (by omega) (Nat.le_refl _)
      rw [r]
      simp only [TF.ht_lt, TF.ht_nm, TF.ht_br, TEs.ht_nil, TEs.ht_cons]
      rw [hlen]
      congr 2
      · omega
  · intro n e hE x many c i m top cnt hc h1 h2 h3 hA hn hm
    simp only [TEs.rt_nil, TEs.rt_cons, List.append_nil, List.length_nil] at hA hn ⊢
    have r := hE n x i h1 hA.left (by omega)
    have hb : bt t (i + e.rd.length : Nat) = c := hA.right.head
    have := bt_lt (s := t) (p := i + e.rd.length) (by rw [hb]; intro h0; rw [h0] at hc; exact absurd hc (by decide))
    obtain ⟨m', rfl⟩ : ∃ m', m = m' + 1 := ⟨m - 1, by omega⟩
    unfold pEl
    rw [r]
    simp only
    rw [if_neg (by omega), if_pos hb]
    simp [TEs.ht_nil, TEs.ht_cons]
  · intro e2 es ihe ihes n e hE x many c i m top cnt hc h1 h2 h3 hA hn hm
    have hmany : many = true := by
      rcases h3 with h | h
      · simp [TEs.len] at h
      · exact h
    simp only [TEs.ok_nil, TEs.ok_cons] at h2
    simp only [TEs.rt_nil, TEs.rt_cons, List.length_cons, List.length_append] at hA hn ⊢
    have hA' : At t i (e.rd ++ (44 :: (e2.rd ++ (TEs.rt es) ++ [c]))) := by simpa using hA
    have r := hE n x i h1 hA'.left (by omega)
    have hb : bt t (i + e.rd.length : Nat) = 44 := hA'.right.head
    have hne : c ≠ 44 := by intro h0; rw [h0] at hc; exact absurd hc (by decide)
    have := bt_lt (s := t) (p := i + e.rd.length) (by rw [hb]; omega)
    have hpos := TE.rd_pos e
    obtain ⟨m', rfl⟩ : ∃ m', m = m' + 1 := ⟨m - 1, by omega⟩
    have r2 := ihes n e2 ihe x many c (i + e.rd.length + 1) m' (max top e.ht) (cnt + 1) hc h2.1 h2.2 (.inr hmany) hA'.right.tail (by omega) (by omega)
    unfold pEl
    rw [r]
    simp only
    rw [if_neg (by omega), if_neg (by omega), if_pos ⟨hb, hmany⟩, r2]
    simp only [TEs.ht_nil, TEs.ht_cons]
    congr 2
    · omega
    · omega
theorem TE.read (n : Nat) : ∀ (e : (TE TF)) (x i : Nat), e.ok s x → At t i e.rd → e.rd.length ≤ n → pE s t 0 n x i = some (i + e.rd.length, e.ht) := fun e => read_all.1 e n
theorem TFs.read (n : Nat) : ∀ (fs : TFs) (l : List Nat) (i top : Nat), (∀ f ∈ l, isF s f = true) → (TFs.ok s fs) l → At t i (TFs.rd fs) → (TFs.rd fs).length ≤ n → pFs (pF s t 0 (pE s t 0 n)) l i top = some (i + (TFs.rd fs).length, max top (TFs.ht fs)) := fun fs => read_all.2.1 fs n
theorem TF.read (n : Nat) : ∀ (f : TF) (p i : Nat), isF s p = true → f.ok s p → At t i f.rd → f.rd.length ≤ n → pF s t 0 (pE s t 0 n) p i = some (i + f.rd.length, f.ht) := fun f => read_all.2.2.1 f n
theorem TEs.read (n : Nat) : ∀ (es : TEs) (e : (TE TF)) (hE : ∀ (n x i : Nat), e.ok s x → At t i e.rd → e.rd.length ≤ n → pE s t 0 n x i = some (i + e.rd.length, e.ht)) (x : Nat) (many : Bool) (c : Int) (i m top : Nat) (cnt : Int), cX c = true → e.ok s x → (TEs.ok s es) x → ((TEs.len es) = 0 ∨ many = true) → At t i (e.rd ++ (TEs.rt es) ++ [c]) → e.rd.length + (TEs.rt es).length ≤ n → t.size - i ≤ m → pEl t (pE s t 0 n x) c many 0 m i top cnt = some (i + e.rd.length + (TEs.rt es).length + 1, max top (max e.ht (TEs.ht es))) := fun es => read_all.2.2.2 es n
end
end Go.Proofs.Ytnfaiaoipeholaa
/- Trees as trees: what is read is one. No Go here. -/
namespace Go.Proofs.Ytnfaiaoipeholaa
set_option linter.unusedSimpArgs false
set_option linter.unusedVariables false
section
variable {s t : ByteArray}
theorem At.cons {i : Nat} {x : Int} {L : List Int} (h : bt t i = x) (g : At t (i + 1) L) : At t i (x :: L) := fun k hk => by
  cases k with
  | zero => simpa using h
  | succ k =>
    have := g k (by simpa using hk)
    rw [show i + (k + 1) = i + 1 + k by omega, this]; rfl
theorem At.nil (i : Nat) : At t i [] := fun k hk => by simp at hk
theorem At.app {i : Nat} {A B : List Int} (h : At t i A) (g : At t (i + A.length) B) : At t i (A ++ B) := fun k hk => by
  by_cases e : k < A.length
  · rw [h k e, List.getElem_append_left e]
  · have := g (k - A.length) (by simp at hk; omega)
    rw [show i + k = i + A.length + (k - A.length) by omega, this, List.getElem_append_right (by omega)]
/-- an expression that is read is a tree -/
def IsE (s t : ByteArray) (n : Nat) : Prop := ∀ x i j h, pE s t 0 n x i = some (j, h) → ∃ e : (TE TF), e.ok s x ∧ e.ht = h ∧ At t i e.rd ∧ j = i + e.rd.length
theorem pEl_tree {n x : Nat} {c : Int} {many : Bool} (ih : IsE s t n) :
    ∀ m i top cnt j h, pEl t (pE s t 0 n x) c many 0 m i top cnt = some (j, h) → ∃ (e : (TE TF)) (es : TEs), e.ok s x ∧ (TEs.ok s es) x ∧ ((TEs.len es) = 0 ∨ many = true) ∧ At t i (e.rd ++ (TEs.rt es) ++ [c]) ∧ j = i + e.rd.length + (TEs.rt es).length + 1 ∧ h = max top (max e.ht (TEs.ht es))
  | 0, i, top, cnt, j, h, e => by cases e
  | m + 1, i, top, cnt, j, h, e => by
    unfold pEl at e
    cases hq : pE s t 0 n x i with
    | none => rw [hq] at e; cases e
    | some q =>
      obtain ⟨k, h1⟩ := q
      rw [hq] at e
      simp only at e
      obtain ⟨e1, o1, o2, o3, o4⟩ := ih x i k h1 hq
      split at e
      · cases e
      split at e
      · rename_i hb
        simp only [Option.some.injEq, Prod.mk.injEq] at e
        refine ⟨e1, .nil, o1, by simp [TEs.ok_nil, TEs.ok_cons], .inl rfl, ?_, by simp [TEs.rt_nil, TEs.rt_cons]; omega, by simp [TEs.ht_nil, TEs.ht_cons]; omega⟩
        simp only [TEs.rt_nil, TEs.rt_cons, List.append_nil]
        exact o3.app (At.cons (by rw [← o4]; exact hb) (At.nil _))
      split at e
      · rename_i hb
        obtain ⟨e2, es, p1, p2, p3, p4, p5, p6⟩ := pEl_tree ih m (k + 1) (max top h1) (cnt + 1) j h e
        refine ⟨e1, .cons e2 es, o1, ?_, .inr hb.2, ?_, ?_, ?_⟩
        · simp only [TEs.ok_nil, TEs.ok_cons]; exact ⟨p1, p2⟩
        · have : At t i (e1.rd ++ (44 :: (e2.rd ++ (TEs.rt es) ++ [c]))) := o3.app (At.cons (by rw [← o4]; exact hb.1) (by rw [← o4]; exact p4))
          simpa [TEs.rt_nil, TEs.rt_cons] using this
        · simp only [TEs.rt_nil, TEs.rt_cons, List.length_cons, List.length_append]; omega
        · simp only [TEs.ht_nil, TEs.ht_cons]; omega
      · cases e
theorem pF_tree {n : Nat} (ih : IsE s t n) {p i j h : Nat} (hp : isF s p = true) (e : pF s t 0 (pE s t 0 n) p i = some (j, h)) : ∃ f : TF, f.ok s p ∧ f.ht = h ∧ At t i f.rd ∧ j = i + f.rd.length := by
  unfold pF at e
  split at e
  · cases e
  rename_i hb
  have hb' : bt t i = bt s p := by simpa using hb
  split at e
  · rename_i hl
    simp only [Option.some.injEq, Prod.mk.injEq] at e
    exact ⟨.lt (bt s p), by simp only [TF.ok_lt, TF.ok_nm, TF.ok_br]; exact ⟨hl, trivial⟩, by simp [TF.ht_lt, TF.ht_nm, TF.ht_br]; omega, by simp only [TF.rd_lt, TF.rd_nm, TF.rd_br]; exact At.cons hb' (At.nil _), by simp [TF.rd_lt, TF.rd_nm, TF.rd_br]; omega⟩
  rename_i hl
  split at e
  · rename_i hn
    unfold pN at e
    split at e
    · cases e
    rename_i h40
    cases hq : pE s t 0 n (rl s (bt s p) + 2).toNat (i + 1 + 1) with
    | none => rw [hq] at e; cases e
    | some q =>
      obtain ⟨k, h1⟩ := q
      rw [hq] at e
      simp only at e
      obtain ⟨e1, o1, o2, o3, o4⟩ := ih _ _ _ _ hq
      split at e
      · rename_i h41
        simp only [Option.some.injEq, Prod.mk.injEq] at e
        refine ⟨.nm (bt s p) e1, by simp only [TF.ok_lt, TF.ok_nm, TF.ok_br]; exact ⟨hn, trivial, o1⟩, by simp only [TF.ht_lt, TF.ht_nm, TF.ht_br]; omega, ?_, by simp [TF.rd_lt, TF.rd_nm, TF.rd_br]; omega⟩
        simp only [TF.rd_lt, TF.rd_nm, TF.rd_br]
        exact At.cons hb' (At.cons (by simpa using h40) (o3.app (At.cons (by rw [← o4]; exact h41) (At.nil _))))
      · cases e
  · rename_i hn
    have hc0 := isF_cC hp (by simpa using hl) (by simpa using hn)
    have ho : cO (bt s p) = true := by simp [cO, hc0]
    have hov := cO_vals ho
    unfold pB at e
    split at e
    · rename_i hc
      simp only [Option.some.injEq, Prod.mk.injEq] at e
      refine ⟨.br (bt s p) .nil, ?_, by simp [TF.ht_lt, TF.ht_nm, TF.ht_br, TEs.ht_nil, TEs.ht_cons]; omega, ?_, by simp [TF.rd_lt, TF.rd_nm, TF.rd_br, TEs.rd_nil, TEs.rd_cons]; omega⟩
      · simp only [TF.ok_lt, TF.ok_nm, TF.ok_br, TEs.len, TEs.ok_nil, TEs.ok_cons]
        exact ⟨ho, trivial, ⟨fun h => by omega, fun _ => by omega, fun h => by omega⟩, trivial⟩
      · simp only [TF.rd_lt, TF.rd_nm, TF.rd_br, TEs.rd_nil, TEs.rd_cons, List.nil_append]
        exact At.cons hb' (At.cons hc.1 (At.nil _))
    · obtain ⟨e1, es, p1, p2, p3, p4, p5, p6⟩ := pEl_tree ih _ _ _ _ _ _ e
      refine ⟨.br (bt s p) (.cons e1 es), ?_, by simp only [TF.ht_lt, TF.ht_nm, TF.ht_br, TEs.ht_nil, TEs.ht_cons]; omega, ?_, ?_⟩
      · simp only [TF.ok_lt, TF.ok_nm, TF.ok_br, TEs.len, TEs.ok_nil, TEs.ok_cons]
        refine ⟨ho, trivial, ⟨fun h => ?_, fun h => ?_, fun _ => by omega⟩, p1, p2⟩
        · rcases p3 with p3 | p3
          · omega
          · simp at p3; omega
        · rcases p3 with p3 | p3
          · omega
          · simp at p3; omega
      · simp only [TF.rd_lt, TF.rd_nm, TF.rd_br, TEs.rd_nil, TEs.rd_cons]
        exact At.cons hb' p4
      · simp only [TF.rd_lt, TF.rd_nm, TF.rd_br, TEs.rd_nil, TEs.rd_cons, List.length_cons, List.length_append, List.length_nil]; omega
theorem pFs_tree {n : Nat} (ih : IsE s t n) : ∀ (l : List Nat) (i top j h : Nat), (∀ f ∈ l, isF s f = true) → pFs (pF s t 0 (pE s t 0 n)) l i top = some (j, h) → ∃ fs : TFs, (TFs.ok s fs) l ∧ h = max top (TFs.ht fs) ∧ At t i (TFs.rd fs) ∧ j = i + (TFs.rd fs).length
  | [], i, top, j, h, hl, e => by
    simp only [pFs, Option.some.injEq, Prod.mk.injEq] at e
    exact ⟨.nil, by simp [TFs.ok_nil, TFs.ok_cons], by simp [TFs.ht_nil, TFs.ht_cons]; omega, by simp only [TFs.rd_nil, TFs.rd_cons]; exact At.nil _, by simp [TFs.rd_nil, TFs.rd_cons]; omega⟩
  | p :: l, i, top, j, h, hl, e => by
    unfold pFs at e
    cases hq : pF s t 0 (pE s t 0 n) p i with
    | none => rw [hq] at e; cases e
    | some q =>
      obtain ⟨k, h1⟩ := q
      rw [hq] at e
      simp only at e
      obtain ⟨f, o1, o2, o3, o4⟩ := pF_tree ih (hl p (by simp)) hq
      obtain ⟨fs, p1, p2, p3, p4⟩ := pFs_tree ih l k _ j h (fun f' hf => hl f' (by simp [hf])) e
      refine ⟨.cons f fs, ?_, by simp only [TFs.ht_nil, TFs.ht_cons]; omega, ?_, by simp only [TFs.rd_nil, TFs.rd_cons, List.length_append]; omega⟩
      · simp only [TFs.ok_nil, TFs.ok_cons]; exact ⟨p, l, rfl, o1, p1⟩
      · simp only [TFs.rd_nil, TFs.rd_cons]; exact o3.app (by rw [← o4]; exact p3)
theorem pE_tree : ∀ n, IsE s t n
  | 0, x, i, j, h, e => by cases e
  | n + 1, x, i, j, h, e => by
    have ih : IsE s t n := pE_tree n
    unfold pE at e
    split at e
    · rename_i hd
      have hv : 48 ≤ bt t i ∧ bt t i ≤ 57 := by simpa [cD] using hd
      cases hq : ap s (bt t i - 48).toNat x with
      | none => rw [hq] at e; cases e
      | some a =>
        rw [hq] at e
        simp only at e
        obtain ⟨fs, p1, p2, p3, p4⟩ := pFs_tree ih (fe s a).1 (i + 1) 0 j h (fun f hf => (fe_mem hf).1) e
        refine ⟨.mk (bt t i - 48).toNat fs, ?_, by simp only [TE.ht_mk]; omega, ?_, by simp only [TE.rd_mk, List.length_cons]; omega⟩
        · simp only [TE.ok_mk]; exact ⟨by omega, a, hq, p1⟩
        · simp only [TE.rd_mk]; exact At.cons (by omega) p3
    · cases e
/-- a tree of the grammar, as a tree -/
structure TreeOf (s t : ByteArray) (f : TF) : Prop where
  ok : f.ok s 0
  at_ : At t 0 f.rd
  sz : t.size = f.rd.length
  le : t.size ≤ 2000
theorem whole_tree (hf : isF s 0 = true) {h : Nat} (e : whole s t 0 = some h) : ∃ f : TF, TreeOf s t f ∧ f.ht = h := by
  unfold whole at e
  split at e
  · cases e
  cases hq : pF s t 0 (pE s t 0 (t.size + 1)) 0 0 with
  | none => rw [hq] at e; cases e
  | some q =>
    obtain ⟨j, k⟩ := q
    rw [hq] at e
    simp only at e
    split at e
    · rename_i hj
      obtain ⟨f, o1, o2, o3, o4⟩ := pF_tree (pE_tree _) hf hq
      simp only [Option.some.injEq] at e
      exact ⟨f, ⟨o1, o3, by omega, by omega⟩, by omega⟩
    · cases e
theorem TreeOf.whole (hf : isF s 0 = true) {f : TF} (h : TreeOf s t f) : whole s t 0 = some f.ht := by
  unfold Go.Proofs.Ytnfaiaoipeholaa.whole
  have := TF.read (s := s) (t := t) (t.size + 1) f 0 0 hf h.ok h.at_ (by have := h.sz; omega)
  rw [if_neg (by have := h.le; omega), this]
  simp only
  rw [if_pos (by have := h.sz; omega)]
end
end Go.Proofs.Ytnfaiaoipeholaa
/- Trees as trees: the steps, and what they leave. No Go here. -/
namespace Go.Proofs.Ytnfaiaoipeholaa
set_option linter.unusedSimpArgs false
set_option linter.unusedVariables false
/-- elements without one of them -/
def TEs.del : TEs → Nat → TEs
  | .nil, _ => .nil
  | .cons _ es, 0 => es
  | .cons e es, k + 1 => .cons e ((TEs.del es) k)
/-- how many steps a bracket has of its own -/
def ownN (o : Int) (n : Nat) : Nat := if o = 91 then (if n = 1 then 1 else 0) else if o = 123 then n else if o = 60 then (if 1 < n then n else 0) else 0
def innA (c : Int) : Alg (List TF) where
  e _ _ r := r
  n0 := []
  n1 _ _ r q := r ++ q
  lt _ := []
  nm c' e r := (if c' = c then [TF.nm c' e] else []) ++ r
  br _ _ r := r
  g0 := []
  g1 _ _ r q := r ++ q
/-- the names that stand within, of one kind -/
def TE.inn (c : Int) (e : (TE TF)) : List TF := (para (innA c) (.inl (.inl e)))
def TFs.inn (c : Int) (fs : TFs) : List TF := (para (innA c) (.inl (.inr fs)))
def TF.inn (c : Int) (f : TF) : List TF := (para (innA c) (.inr (.inl f)))
def TEs.inn (c : Int) (es : TEs) : List TF := (para (innA c) (.inr (.inr es)))
theorem TE.inn_mk (c : Int) (d : Nat) (fs : TFs) : TE.inn c ⟨d, fs⟩ = TFs.inn c fs := by unfold TE.inn TFs.inn; rw [para_e]; rfl
theorem TFs.inn_nil (c : Int) : TFs.inn c [] = [] := by unfold TFs.inn; rw [para_n0]; rfl
theorem TFs.inn_cons (c : Int) (f : TF) (fs : TFs) : TFs.inn c (f :: fs) = f.inn c ++ TFs.inn c fs := by unfold TFs.inn TF.inn; rw [para_n1]; rfl
theorem TF.inn_lt (c : Int) (c_ : Int) : TF.inn c (TF.lt c_) = [] := by unfold TF.inn; rw [para_lt]; rfl
theorem TF.inn_nm (c : Int) (c_ : Int) (e : (TE TF)) : TF.inn c (TF.nm c_ e) = (if c_ = c then [TF.nm c_ e] else []) ++ e.inn c := by unfold TF.inn TE.inn; rw [para_nm]; rfl
theorem TF.inn_br (c : Int) (o : Int) (es : TEs) : TF.inn c (TF.br o es) = TEs.inn c es := by unfold TF.inn TEs.inn; rw [para_br]; rfl
theorem TEs.inn_nil (c : Int) : TEs.inn c [] = [] := by unfold TEs.inn; rw [para_g0]; rfl
theorem TEs.inn_cons (c : Int) (e : (TE TF)) (es : TEs) : TEs.inn c (e :: es) = e.inn c ++ TEs.inn c es := by unfold TEs.inn TE.inn; rw [para_g1]; rfl
def stA : Alg ((List (TE TF) × List TFs) × (List TF × List TEs)) where
  e d _ r := ((r.1.2.map (fun fs' => ⟨d, fs'⟩), []), ([], []))
  n0 := (([], []), ([], []))
  n1 f fs r q := (([], r.2.1.map (fun f' => f' :: fs) ++ q.1.2.map (fun fs' => f :: fs')), ([], []))
  lt _ := (([], []), ([], []))
  nm c e r := (([], []), (TE.inn c e ++ r.1.1.map (TF.nm c), []))
  br o es r := (([], []), ((List.range (ownN o (TEs.len es))).map (fun k => TF.br o (TEs.del es k)) ++ r.2.2.map (TF.br o), []))
  g0 := (([], []), ([], []))
  g1 e es r q := (([], []), ([], r.1.1.map (fun e' => e' :: es) ++ q.2.2.map (fun es' => e :: es')))
/-- what one step makes of it -/
def TE.st (e : (TE TF)) : List (TE TF) := (para stA (.inl (.inl e))).1.1
def TFs.st (fs : TFs) : List TFs := (para stA (.inl (.inr fs))).1.2
def TF.st (f : TF) : List TF := (para stA (.inr (.inl f))).2.1
def TEs.st (es : TEs) : List TEs := (para stA (.inr (.inr es))).2.2
theorem TE.st_mk (d : Nat) (fs : TFs) : TE.st ⟨d, fs⟩ = (TFs.st fs).map (fun fs' => ⟨d, fs'⟩) := by unfold TE.st TFs.st; rw [para_e]; rfl
theorem TFs.st_nil : TFs.st [] = [] := by unfold TFs.st; rw [para_n0]; rfl
theorem TFs.st_cons (f : TF) (fs : TFs) : TFs.st (f :: fs) = f.st.map (fun f' => f' :: fs) ++ (TFs.st fs).map (fun fs' => f :: fs') := by unfold TFs.st TF.st; rw [para_n1]; rfl
theorem TF.st_lt (c : Int) : (TF.lt c).st = [] := by unfold TF.st; rw [para_lt]; rfl
theorem TF.st_nm (c : Int) (e : (TE TF)) : (TF.nm c e).st = e.inn c ++ e.st.map (TF.nm c) := by unfold TF.st TE.st; rw [para_nm]; rfl
theorem TF.st_br (o : Int) (es : TEs) : (TF.br o es).st = (List.range (ownN o (TEs.len es))).map (fun k => TF.br o (TEs.del es k)) ++ (TEs.st es).map (TF.br o) := by unfold TF.st TEs.st; rw [para_br]; rfl
theorem TEs.st_nil : TEs.st [] = [] := by unfold TEs.st; rw [para_g0]; rfl
theorem TEs.st_cons (e : (TE TF)) (es : TEs) : TEs.st (e :: es) = e.st.map (fun e' => e' :: es) ++ (TEs.st es).map (fun es' => e :: es') := by unfold TEs.st TE.st; rw [para_g1]; rfl
/-- numbers of a tree: bytes, letters, steps, height, names -/
structure Nu where
  sz : Nat
  wl : Nat
  sn : Nat
  ht : Nat
  nc : Int → Nat
structure Nu.le (a b : Nu) : Prop where
  sz : a.sz ≤ b.sz
  wl : a.wl ≤ b.wl
  sn : a.sn ≤ b.sn
  ht : a.ht ≤ b.ht
  nc : ∀ c, a.nc c ≤ b.nc c
def Nu.zero : Nu := ⟨0, 0, 0, 0, fun _ => 0⟩
def Nu.add (a b : Nu) : Nu := ⟨a.sz + b.sz, a.wl + b.wl, a.sn + b.sn, max a.ht b.ht, fun c => a.nc c + b.nc c⟩
def Nu.more (a : Nu) (k : Nat) : Nu := ⟨a.sz + k, a.wl, a.sn, a.ht, a.nc⟩
def Nu.name (a : Nu) (c : Int) : Nu := ⟨a.sz + 3, a.wl, a.nc c + a.sn, a.ht + 1, fun c' => (if c = c' then 1 else 0) + a.nc c'⟩
def Nu.brk (a : Nu) (o : Int) (n : Nat) : Nu := ⟨a.sz + (if n = 0 then 2 else 1), a.wl, ownN o n + a.sn, a.ht, a.nc⟩
def nuA : Alg Nu where
  e _ _ r := r.more 1
  n0 := .zero
  n1 _ _ r q := r.add q
  lt _ := ⟨1, 1, 0, 0, fun _ => 0⟩
  nm c _ r := r.name c
  br o es r := r.brk o (TEs.len es)
  g0 := .zero
  g1 _ _ r q := (r.more 1).add q
/-- its numbers -/
def TE.nu (e : (TE TF)) : Nu := (para nuA (.inl (.inl e)))
def TFs.nu (fs : TFs) : Nu := (para nuA (.inl (.inr fs)))
def TF.nu (f : TF) : Nu := (para nuA (.inr (.inl f)))
def TEs.nu (es : TEs) : Nu := (para nuA (.inr (.inr es)))
theorem TE.nu_mk (d : Nat) (fs : TFs) : TE.nu ⟨d, fs⟩ = (TFs.nu fs).more 1 := by unfold TE.nu TFs.nu; rw [para_e]; rfl
theorem TFs.nu_nil : TFs.nu [] = .zero := by unfold TFs.nu; rw [para_n0]; rfl
theorem TFs.nu_cons (f : TF) (fs : TFs) : TFs.nu (f :: fs) = f.nu.add (TFs.nu fs) := by unfold TFs.nu TF.nu; rw [para_n1]; rfl
theorem TF.nu_lt (c_ : Int) : TF.nu (TF.lt c_) = ⟨1, 1, 0, 0, fun _ => 0⟩ := by unfold TF.nu; rw [para_lt]; rfl
theorem TF.nu_nm (c_ : Int) (e : (TE TF)) : TF.nu (TF.nm c_ e) = e.nu.name c_ := by unfold TF.nu TE.nu; rw [para_nm]; rfl
theorem TF.nu_br (o : Int) (es : TEs) : TF.nu (TF.br o es) = (TEs.nu es).brk o (TEs.len es) := by unfold TF.nu TEs.nu; rw [para_br]; rfl
theorem TEs.nu_nil : TEs.nu [] = .zero := by unfold TEs.nu; rw [para_g0]; rfl
theorem TEs.nu_cons (e : (TE TF)) (es : TEs) : TEs.nu (e :: es) = (e.nu.more 1).add (TEs.nu es) := by unfold TEs.nu TE.nu; rw [para_g1]; rfl
section
theorem Nu.le.rfl {a : Nu} : a.le a := ⟨Nat.le_refl _, Nat.le_refl _, Nat.le_refl _, Nat.le_refl _, fun _ => Nat.le_refl _⟩
theorem Nu.le.trans {a b c : Nu} (h : a.le b) (g : b.le c) : a.le c := ⟨Nat.le_trans h.sz g.sz, Nat.le_trans h.wl g.wl, Nat.le_trans h.sn g.sn, Nat.le_trans h.ht g.ht, fun x => Nat.le_trans (h.nc x) (g.nc x)⟩
theorem Nu.add_l {a b c : Nu} (h : a.le b) : (a.add c).le (b.add c) := ⟨by have := h.sz; simp [Nu.add]; omega, by have := h.wl; simp [Nu.add]; omega, by have := h.sn; simp [Nu.add]; omega, by have := h.ht; simp [Nu.add]; omega, fun x => by have := h.nc x; simp [Nu.add]; omega⟩
theorem Nu.add_r {a b c : Nu} (h : a.le b) : (c.add a).le (c.add b) := ⟨by have := h.sz; simp [Nu.add]; omega, by have := h.wl; simp [Nu.add]; omega, by have := h.sn; simp [Nu.add]; omega, by have := h.ht; simp [Nu.add]; omega, fun x => by have := h.nc x; simp [Nu.add]; omega⟩
theorem Nu.le_add_l (a b : Nu) : a.le (a.add b) := ⟨by simp [Nu.add], by simp [Nu.add], by simp [Nu.add], by simp [Nu.add]; omega, fun x => by simp [Nu.add]⟩
theorem Nu.le_add_r (a b : Nu) : b.le (a.add b) := ⟨by simp [Nu.add], by simp [Nu.add], by simp [Nu.add], by simp [Nu.add]; omega, fun x => by simp [Nu.add]⟩
theorem Nu.le_more (a : Nu) (k : Nat) : a.le (a.more k) := ⟨by simp [Nu.more], Nat.le_refl _, Nat.le_refl _, Nat.le_refl _, fun _ => Nat.le_refl _⟩
theorem Nu.more_le {a b : Nu} (h : a.le b) (k : Nat) : (a.more k).le (b.more k) := ⟨by have := h.sz; simp [Nu.more]; omega, h.wl, h.sn, h.ht, h.nc⟩
theorem Nu.name_le {a b : Nu} (h : a.le b) (c : Int) : (a.name c).le (b.name c) := ⟨by have := h.sz; simp [Nu.name]; omega, h.wl, by have := h.sn; have := h.nc c; simp [Nu.name]; omega, by have := h.ht; simp [Nu.name]; omega, fun x => by have := h.nc x; simp [Nu.name]; omega⟩
theorem Nu.le_name (a : Nu) (c : Int) : a.le (a.name c) := ⟨by simp [Nu.name], Nat.le_refl _, by simp [Nu.name], by simp [Nu.name], fun x => by simp [Nu.name]⟩
theorem Nu.brk_le {a b : Nu} (h : a.le b) (o : Int) (n : Nat) : (a.brk o n).le (b.brk o n) := ⟨by have := h.sz; simp [Nu.brk]; omega, h.wl, by have := h.sn; simp [Nu.brk]; omega, h.ht, h.nc⟩
theorem Nu.le_brk (a : Nu) (o : Int) (n : Nat) : a.le (a.brk o n) := ⟨by simp [Nu.brk], Nat.le_refl _, by simp [Nu.brk], Nat.le_refl _, fun _ => Nat.le_refl _⟩
theorem inn_le_all (c : Int) : (∀ z, (fun (e : (TE TF)) => ∀ (g : TF), g ∈ e.inn c → g.nu.le e.nu) z) ∧ (∀ z, (fun (fs : TFs) => ∀ (g : TF), g ∈ (TFs.inn c fs) → g.nu.le (TFs.nu fs)) z) ∧ (∀ z, (fun (f : TF) => ∀ (g : TF), g ∈ f.inn c → g.nu.le f.nu) z) ∧ (∀ z, (fun (es : TEs) => ∀ (g : TF), g ∈ (TEs.inn c es) → g.nu.le (TEs.nu es)) z) := by
  refine tree_ind ?_ ?_ ?_ ?_ ?_ ?_ ?_ ?_
  · intro _ fs ihfs g h
    simp only [TE.inn_mk] at h
    simp only [TE.nu_mk]
    exact (ihfs g h).trans (Nu.le_more _ _)
  · intro g h
    simp [TFs.inn_nil, TFs.inn_cons] at h
  · intro f fs ihf ihfs g h
    simp only [TFs.inn_nil, TFs.inn_cons, List.mem_append] at h
    simp only [TFs.nu_nil, TFs.nu_cons]
    rcases h with h | h
    · exact (ihf g h).trans (Nu.le_add_l _ _)
    · exact (ihfs g h).trans (Nu.le_add_r _ _)
  · intro _ g h
    simp [TF.inn_lt, TF.inn_nm, TF.inn_br] at h
  · intro c' e ihe g h
    simp only [TF.inn_lt, TF.inn_nm, TF.inn_br, List.mem_append] at h
    rcases h with h | h
    · split at h
      · simp at h; subst h; exact Nu.le.rfl
      · simp at h
    · simp only [TF.nu_lt, TF.nu_nm, TF.nu_br]
      exact (ihe g h).trans (Nu.le_name _ _)
  · intro o es ihes _ g h
    simp only [TF.inn_lt, TF.inn_nm, TF.inn_br] at h
    simp only [TF.nu_lt, TF.nu_nm, TF.nu_br]
    exact (ihes g h).trans (Nu.le_brk _ _ _)
  · intro g h
    simp [TEs.inn_nil, TEs.inn_cons] at h
  · intro e es ihe ihes g h
    simp only [TEs.inn_nil, TEs.inn_cons, List.mem_append] at h
    simp only [TEs.nu_nil, TEs.nu_cons]
    rcases h with h | h
    · exact ((ihe g h).trans (Nu.le_more _ _)).trans (Nu.le_add_l _ _)
    · exact (ihes g h).trans (Nu.le_add_r _ _)
theorem TE.inn_le (c : Int) : ∀ (e : (TE TF)) (g : TF), g ∈ e.inn c → g.nu.le e.nu := (inn_le_all c).1
theorem TFs.inn_le (c : Int) : ∀ (fs : TFs) (g : TF), g ∈ (TFs.inn c fs) → g.nu.le (TFs.nu fs) := (inn_le_all c).2.1
theorem TF.inn_le (c : Int) : ∀ (f g : TF), g ∈ f.inn c → g.nu.le f.nu := (inn_le_all c).2.2.1
theorem TEs.inn_le (c : Int) : ∀ (es : TEs) (g : TF), g ∈ (TEs.inn c es) → g.nu.le (TEs.nu es) := (inn_le_all c).2.2.2
theorem TEs.del_len : ∀ (es : TEs) (k : Nat), k < (TEs.len es) → (TEs.len (TEs.del es k)) + 1 = (TEs.len es)
  | .nil, k, h => by simp [TEs.len] at h
  | .cons e es, 0, h => by simp [TEs.del, TEs.len]
  | .cons e es, k + 1, h => by
    simp only [TEs.len] at h
    simp only [TEs.del, TEs.len]
    rw [TEs.del_len es k (by omega)]
theorem TE.nu_pos : ∀ e : (TE TF), 1 ≤ e.nu.sz
  | .mk _ fs => by simp [TE.nu_mk, Nu.more]
theorem TEs.del_le : ∀ (es : TEs) (k : Nat), k < (TEs.len es) → (TEs.nu (TEs.del es k)).le (TEs.nu es) ∧ (TEs.nu (TEs.del es k)).sz + 2 ≤ (TEs.nu es).sz
  | .nil, k, h => by simp [TEs.len] at h
  | .cons e es, 0, h => by
    simp only [TEs.del, TEs.nu_nil, TEs.nu_cons]
    refine ⟨Nu.le_add_r _ _, ?_⟩
    have := TE.nu_pos e
    simp [Nu.add, Nu.more]; omega
  | .cons e es, k + 1, h => by
    simp only [TEs.len] at h
    obtain ⟨h1, h2⟩ := TEs.del_le es k (by omega)
    simp only [TEs.del, TEs.nu_nil, TEs.nu_cons]
    exact ⟨Nu.add_r h1, by simp [Nu.add]; omega⟩
theorem ownN_mono {o : Int} {n : Nat} (h : 0 < ownN o (n + 1)) : ownN o n ≤ ownN o (n + 1) := by
  unfold ownN at h ⊢
  by_cases h1 : o = 91
  · simp only [if_pos h1] at h ⊢
    split at h
    · split <;> omega
    · omega
  · simp only [if_neg h1] at h ⊢
    by_cases h2 : o = 123
    · simp only [if_pos h2]; omega
    · simp only [if_neg h2]
      split
      · split <;> split <;> omega
      · omega
theorem ownN_le (o : Int) (n : Nat) : ownN o n ≤ n := by
  unfold ownN
  split
  · split <;> omega
  split
  · omega
  split
  · split <;> omega
  · omega
theorem brk_del {o : Int} {es : TEs} {k : Nat} (h : k < (TEs.len es)) (ho : 0 < ownN o (TEs.len es)) : ((TEs.nu (TEs.del es k)).brk o (TEs.len (TEs.del es k))).le ((TEs.nu es).brk o (TEs.len es)) ∧ ((TEs.nu (TEs.del es k)).brk o (TEs.len (TEs.del es k))).sz < ((TEs.nu es).brk o (TEs.len es)).sz := by
  obtain ⟨h1, h2⟩ := TEs.del_le es k h
  have h3 := TEs.del_len es k h
  have h4 := ownN_mono (o := o) (n := (TEs.len (TEs.del es k))) (by rw [h3]; exact ho)
  rw [h3] at h4
  have hs := h1.sn
  refine ⟨⟨?_, h1.wl, by simp [Nu.brk]; omega, h1.ht, h1.nc⟩, ?_⟩
  · simp only [Nu.brk]; split <;> split <;> omega
  · simp only [Nu.brk]; split <;> split <;> omega
theorem st_le_all : (∀ z, (fun (e : (TE TF)) => ∀ (e' : (TE TF)), e' ∈ e.st → e'.nu.le e.nu ∧ e'.nu.sz < e.nu.sz) z) ∧ (∀ z, (fun (fs : TFs) => ∀ (fs' : TFs), fs' ∈ (TFs.st fs) → (TFs.nu fs').le (TFs.nu fs) ∧ (TFs.nu fs').sz < (TFs.nu fs).sz) z) ∧ (∀ z, (fun (f : TF) => ∀ (f' : TF), f' ∈ f.st → f'.nu.le f.nu ∧ f'.nu.sz < f.nu.sz) z) ∧ (∀ z, (fun (es : TEs) => ∀ (es' : TEs), es' ∈ (TEs.st es) → (TEs.nu es').le (TEs.nu es) ∧ (TEs.nu es').sz < (TEs.nu es).sz ∧ (TEs.len es') = (TEs.len es)) z) := by
  refine tree_ind ?_ ?_ ?_ ?_ ?_ ?_ ?_ ?_
  · intro d fs ihfs e' h
    simp only [TE.st_mk, List.mem_map] at h
    obtain ⟨fs', h1, rfl⟩ := h
    obtain ⟨h2, h3⟩ := ihfs fs' h1
    simp only [TE.nu_mk]
    exact ⟨Nu.more_le h2 1, by simp [Nu.more]; omega⟩
  · intro fs' h
    simp [TFs.st_nil, TFs.st_cons] at h
  · intro f fs ihf ihfs fs' h
    simp only [TFs.st_nil, TFs.st_cons, List.mem_append, List.mem_map] at h
    rcases h with ⟨f', h1, rfl⟩ | ⟨g, h1, rfl⟩
    · obtain ⟨h2, h3⟩ := ihf f' h1
      simp only [TFs.nu_nil, TFs.nu_cons]
      exact ⟨Nu.add_l h2, by simp [Nu.add]; omega⟩
    · obtain ⟨h2, h3⟩ := ihfs g h1
      simp only [TFs.nu_nil, TFs.nu_cons]
      exact ⟨Nu.add_r h2, by simp [Nu.add]; omega⟩
  · intro _ f' h
    simp [TF.st_lt, TF.st_nm, TF.st_br] at h
  · intro c e ihe f' h
    simp only [TF.st_lt, TF.st_nm, TF.st_br, List.mem_append, List.mem_map] at h
    simp only [TF.nu_lt, TF.nu_nm, TF.nu_br]
    rcases h with h | ⟨e', h1, rfl⟩
    · have h2 := TE.inn_le c e f' h
      refine ⟨h2.trans (Nu.le_name _ _), ?_⟩
      have := h2.sz
      simp [Nu.name]; omega
    · obtain ⟨h2, h3⟩ := ihe e' h1
      simp only [TF.nu_lt, TF.nu_nm, TF.nu_br]
      exact ⟨Nu.name_le h2 c, by simp [Nu.name]; omega⟩
  · intro o es ihes _ f' h
    simp only [TF.st_lt, TF.st_nm, TF.st_br, List.mem_append, List.mem_map] at h
    rcases h with ⟨k, h1, rfl⟩ | ⟨es', h1, rfl⟩
    · have hk : k < (TEs.len es) := by
        have := ownN_le o (TEs.len es)
        simp at h1; omega
      simp only [TF.nu_lt, TF.nu_nm, TF.nu_br]
      exact brk_del hk (by simp at h1; omega)
    · obtain ⟨h2, h3, h4⟩ := ihes es' h1
      simp only [TF.nu_lt, TF.nu_nm, TF.nu_br]
      rw [h4]
      exact ⟨Nu.brk_le h2 o _, by simp [Nu.brk]; omega⟩
  · intro es' h
    simp [TEs.st_nil, TEs.st_cons] at h
  · intro e es ihe ihes es' h
    simp only [TEs.st_nil, TEs.st_cons, List.mem_append, List.mem_map] at h
    rcases h with ⟨e', h1, rfl⟩ | ⟨g, h1, rfl⟩
    · obtain ⟨h2, h3⟩ := ihe e' h1
      simp only [TEs.nu_nil, TEs.nu_cons, TEs.len]
      exact ⟨Nu.add_l (Nu.more_le h2 1), by simp [Nu.add, Nu.more]; omega, trivial⟩
    · obtain ⟨h2, h3, h4⟩ := ihes g h1
      simp only [TEs.nu_nil, TEs.nu_cons, TEs.len]
      exact ⟨Nu.add_r h2, by simp [Nu.add]; omega, by omega⟩
theorem TE.st_le : ∀ (e e' : (TE TF)), e' ∈ e.st → e'.nu.le e.nu ∧ e'.nu.sz < e.nu.sz := st_le_all.1
theorem TFs.st_le : ∀ (fs fs' : TFs), fs' ∈ (TFs.st fs) → (TFs.nu fs').le (TFs.nu fs) ∧ (TFs.nu fs').sz < (TFs.nu fs).sz := st_le_all.2.1
theorem TF.st_le : ∀ (f f' : TF), f' ∈ f.st → f'.nu.le f.nu ∧ f'.nu.sz < f.nu.sz := st_le_all.2.2.1
theorem TEs.st_le : ∀ (es es' : TEs), es' ∈ (TEs.st es) → (TEs.nu es').le (TEs.nu es) ∧ (TEs.nu es').sz < (TEs.nu es).sz ∧ (TEs.len es') = (TEs.len es) := st_le_all.2.2.2
end
end Go.Proofs.Ytnfaiaoipeholaa
/- Trees as trees: their numbers are those of the text; steps lead to trees; how many steps there are. No Go here. -/
namespace Go.Proofs.Ytnfaiaoipeholaa
set_option linter.unusedSimpArgs false
set_option linter.unusedVariables false
theorem nu_len_all : (∀ z, (fun (e : (TE TF)) => e.rd.length = e.nu.sz) z) ∧ (∀ z, (fun (fs : TFs) => (TFs.rd fs).length = (TFs.nu fs).sz) z) ∧ (∀ z, (fun (f : TF) => f.rd.length = f.nu.sz) z) ∧ (∀ z, (fun (es : TEs) => (TEs.rt es).length = (TEs.nu es).sz) z) := by
  refine tree_ind ?_ ?_ ?_ ?_ ?_ ?_ ?_ ?_
  · intro _ fs ihfs
    simp [TE.rd_mk, TE.nu_mk, Nu.more, ihfs]
  · simp [TFs.rd_nil, TFs.rd_cons, TFs.nu_nil, TFs.nu_cons, Nu.zero]
  · intro f fs ihf ihfs
    simp [TFs.rd_nil, TFs.rd_cons, TFs.nu_nil, TFs.nu_cons, Nu.add, ihf, ihfs]
  · intro _
    simp [TF.rd_lt, TF.rd_nm, TF.rd_br, TF.nu_lt, TF.nu_nm, TF.nu_br]
  · intro _ e ihe
    simp [TF.rd_lt, TF.rd_nm, TF.rd_br, TF.nu_lt, TF.nu_nm, TF.nu_br, Nu.name, ihe]
  · intro o es _ ihb
    cases es with
    | nil => simp [TF.rd_lt, TF.rd_nm, TF.rd_br, TF.nu_lt, TF.nu_nm, TF.nu_br, TEs.rd_nil, TEs.rd_cons, TEs.nu_nil, TEs.nu_cons, Nu.brk, Nu.zero, TEs.len]
    | cons e es => simp [TF.rd_lt, TF.rd_nm, TF.rd_br, TF.nu_lt, TF.nu_nm, TF.nu_br, TEs.rd_nil, TEs.rd_cons, TEs.nu_nil, TEs.nu_cons, Nu.brk, Nu.add, Nu.more, TEs.len, (ihb _ _ rfl).1, (ihb _ _ rfl).2]; omega
  · simp [TEs.rt_nil, TEs.rt_cons, TEs.nu_nil, TEs.nu_cons, Nu.zero]
  · intro e es ihe ihes
    simp [TEs.rt_nil, TEs.rt_cons, TEs.nu_nil, TEs.nu_cons, Nu.add, Nu.more, ihe, ihes]; omega
theorem TE.nu_len : ∀ e : (TE TF), e.rd.length = e.nu.sz := nu_len_all.1
theorem TFs.nu_len : ∀ fs : TFs, (TFs.rd fs).length = (TFs.nu fs).sz := nu_len_all.2.1
theorem TF.nu_len : ∀ f : TF, f.rd.length = f.nu.sz := nu_len_all.2.2.1
theorem TEs.nu_len : ∀ es : TEs, (TEs.rt es).length = (TEs.nu es).sz := nu_len_all.2.2.2
theorem nu_ht_all : (∀ z, (fun (e : (TE TF)) => e.ht = e.nu.ht) z) ∧ (∀ z, (fun (fs : TFs) => (TFs.ht fs) = (TFs.nu fs).ht) z) ∧ (∀ z, (fun (f : TF) => f.ht = f.nu.ht) z) ∧ (∀ z, (fun (es : TEs) => (TEs.ht es) = (TEs.nu es).ht) z) := by
  refine tree_ind ?_ ?_ ?_ ?_ ?_ ?_ ?_ ?_
  · intro _ fs ihfs
    simp [TE.ht_mk, TE.nu_mk, Nu.more, ihfs]
  · simp [TFs.ht_nil, TFs.ht_cons, TFs.nu_nil, TFs.nu_cons, Nu.zero]
  · intro f fs ihf ihfs
    simp [TFs.ht_nil, TFs.ht_cons, TFs.nu_nil, TFs.nu_cons, Nu.add, ihf, ihfs]
  · intro _
    simp [TF.ht_lt, TF.ht_nm, TF.ht_br, TF.nu_lt, TF.nu_nm, TF.nu_br]
  · intro _ e ihe
    simp [TF.ht_lt, TF.ht_nm, TF.ht_br, TF.nu_lt, TF.nu_nm, TF.nu_br, Nu.name, ihe]
  · intro _ es ihes _
    simp [TF.ht_lt, TF.ht_nm, TF.ht_br, TF.nu_lt, TF.nu_nm, TF.nu_br, Nu.brk, ihes]
  · simp [TEs.ht_nil, TEs.ht_cons, TEs.nu_nil, TEs.nu_cons, Nu.zero]
  · intro e es ihe ihes
    simp [TEs.ht_nil, TEs.ht_cons, TEs.nu_nil, TEs.nu_cons, Nu.add, Nu.more, ihe, ihes]
theorem TE.nu_ht : ∀ e : (TE TF), e.ht = e.nu.ht := nu_ht_all.1
theorem TFs.nu_ht : ∀ fs : TFs, (TFs.ht fs) = (TFs.nu fs).ht := nu_ht_all.2.1
theorem TF.nu_ht : ∀ f : TF, f.ht = f.nu.ht := nu_ht_all.2.2.1
theorem TEs.nu_ht : ∀ es : TEs, (TEs.ht es) = (TEs.nu es).ht := nu_ht_all.2.2.2
theorem nu_nc_all (c : Int) : (∀ z, (fun (e : (TE TF)) => (e.inn c).length = e.nu.nc c) z) ∧ (∀ z, (fun (fs : TFs) => ((TFs.inn c fs)).length = (TFs.nu fs).nc c) z) ∧ (∀ z, (fun (f : TF) => (f.inn c).length = f.nu.nc c) z) ∧ (∀ z, (fun (es : TEs) => ((TEs.inn c es)).length = (TEs.nu es).nc c) z) := by
  refine tree_ind ?_ ?_ ?_ ?_ ?_ ?_ ?_ ?_
  · intro _ fs ihfs
    simp [TE.inn_mk, TE.nu_mk, Nu.more, ihfs]
  · simp [TFs.inn_nil, TFs.inn_cons, TFs.nu_nil, TFs.nu_cons, Nu.zero]
  · intro f fs ihf ihfs
    simp [TFs.inn_nil, TFs.inn_cons, TFs.nu_nil, TFs.nu_cons, Nu.add, ihf, ihfs]
  · intro _
    simp [TF.inn_lt, TF.inn_nm, TF.inn_br, TF.nu_lt, TF.nu_nm, TF.nu_br]
  · intro c' e ihe
    simp only [TF.inn_lt, TF.inn_nm, TF.inn_br, TF.nu_lt, TF.nu_nm, TF.nu_br, Nu.name, List.length_append, ihe]
    split <;> simp
  · intro _ es ihes _
    simp [TF.inn_lt, TF.inn_nm, TF.inn_br, TF.nu_lt, TF.nu_nm, TF.nu_br, Nu.brk, ihes]
  · simp [TEs.inn_nil, TEs.inn_cons, TEs.nu_nil, TEs.nu_cons, Nu.zero]
  · intro e es ihe ihes
    simp [TEs.inn_nil, TEs.inn_cons, TEs.nu_nil, TEs.nu_cons, Nu.add, Nu.more, ihe, ihes]
theorem TE.nu_nc (c : Int) : ∀ e : (TE TF), (e.inn c).length = e.nu.nc c := (nu_nc_all c).1
theorem TFs.nu_nc (c : Int) : ∀ fs : TFs, ((TFs.inn c fs)).length = (TFs.nu fs).nc c := (nu_nc_all c).2.1
theorem TF.nu_nc (c : Int) : ∀ f : TF, (f.inn c).length = f.nu.nc c := (nu_nc_all c).2.2.1
theorem TEs.nu_nc (c : Int) : ∀ es : TEs, ((TEs.inn c es)).length = (TEs.nu es).nc c := (nu_nc_all c).2.2.2
theorem nu_sn_all : (∀ z, (fun (e : (TE TF)) => e.st.length = e.nu.sn) z) ∧ (∀ z, (fun (fs : TFs) => (TFs.st fs).length = (TFs.nu fs).sn) z) ∧ (∀ z, (fun (f : TF) => f.st.length = f.nu.sn) z) ∧ (∀ z, (fun (es : TEs) => (TEs.st es).length = (TEs.nu es).sn) z) := by
  refine tree_ind ?_ ?_ ?_ ?_ ?_ ?_ ?_ ?_
  · intro _ fs ihfs
    simp [TE.st_mk, TE.nu_mk, Nu.more, ihfs]
  · simp [TFs.st_nil, TFs.st_cons, TFs.nu_nil, TFs.nu_cons, Nu.zero]
  · intro f fs ihf ihfs
    simp [TFs.st_nil, TFs.st_cons, TFs.nu_nil, TFs.nu_cons, Nu.add, ihf, ihfs]
  · intro _
    simp [TF.st_lt, TF.st_nm, TF.st_br, TF.nu_lt, TF.nu_nm, TF.nu_br]
  · intro c e ihe
    simp [TF.st_lt, TF.st_nm, TF.st_br, TF.nu_lt, TF.nu_nm, TF.nu_br, Nu.name, ihe, TE.nu_nc c e]
  · intro _ es ihes _
    simp [TF.st_lt, TF.st_nm, TF.st_br, TF.nu_lt, TF.nu_nm, TF.nu_br, Nu.brk, ihes]
  · simp [TEs.st_nil, TEs.st_cons, TEs.nu_nil, TEs.nu_cons, Nu.zero]
  · intro e es ihe ihes
    simp [TEs.st_nil, TEs.st_cons, TEs.nu_nil, TEs.nu_cons, Nu.add, Nu.more, ihe, ihes]
theorem TE.nu_sn : ∀ e : (TE TF), e.st.length = e.nu.sn := nu_sn_all.1
theorem TFs.nu_sn : ∀ fs : TFs, (TFs.st fs).length = (TFs.nu fs).sn := nu_sn_all.2.1
theorem TF.nu_sn : ∀ f : TF, f.st.length = f.nu.sn := nu_sn_all.2.2.1
theorem TEs.nu_sn : ∀ es : TEs, (TEs.st es).length = (TEs.nu es).sn := nu_sn_all.2.2.2
section
variable {s : ByteArray}
theorem let_no {c : Int} {L : List Int} (h : cL c = false) : ((c :: L).filter fun c => cL c) = L.filter fun c => cL c := List.filter_cons_of_neg (by simpa using h)
theorem nm_let {c : Int} (h : cN c = true) : cL c = false := by
  have hv : 65 ≤ c ∧ c ≤ 90 := by simpa [cN] using h
  simp [cL]; omega
theorem op_let {c : Int} (h : cO c = true) : cL c = false := by
  have := cO_vals h
  simp [cL]; omega
theorem cl_let (c : Int) : cL (cC c) = false := by
  rcases cC_vals c with h | h | h | h | h <;> rw [h] <;> decide
theorem nu_wl_all : (∀ z, (fun (e : (TE TF)) => ∀ (x : Nat), e.ok s x → (e.rd.filter fun c => cL c).length = e.nu.wl) z) ∧ (∀ z, (fun (fs : TFs) => ∀ (l : List Nat), (TFs.ok s fs) l → ((TFs.rd fs).filter fun c => cL c).length = (TFs.nu fs).wl) z) ∧ (∀ z, (fun (f : TF) => ∀ (p : Nat), f.ok s p → (f.rd.filter fun c => cL c).length = f.nu.wl) z) ∧ (∀ z, (fun (es : TEs) => ∀ (x : Nat), (TEs.ok s es) x → ((TEs.rt es).filter fun c => cL c).length = (TEs.nu es).wl) z) := by
  refine tree_ind ?_ ?_ ?_ ?_ ?_ ?_ ?_ ?_
  · intro d fs ihfs x h
    simp only [TE.ok_mk] at h
    obtain ⟨hd, a, _, h2⟩ := h
    simp only [TE.rd_mk, TE.nu_mk, Nu.more]
    rw [let_no (by simp [cL]; omega), ihfs _ h2]
  · intro l h
    simp [TFs.rd_nil, TFs.rd_cons, TFs.nu_nil, TFs.nu_cons, Nu.zero]
  · intro f fs ihf ihfs l h
    simp only [TFs.ok_nil, TFs.ok_cons] at h
    obtain ⟨p, q, _, h1, h2⟩ := h
    simp only [TFs.rd_nil, TFs.rd_cons, TFs.nu_nil, TFs.nu_cons, Nu.add, List.filter_append, List.length_append]
    rw [ihf p h1, ihfs q h2]
  · intro c p h
    simp only [TF.ok_lt, TF.ok_nm, TF.ok_br] at h
    obtain ⟨h1, h2⟩ := h
    simp only [TF.rd_lt, TF.rd_nm, TF.rd_br, TF.nu_lt, TF.nu_nm, TF.nu_br]
    rw [List.filter_cons_of_pos (by rw [h2]; simpa using h1)]; rfl
  · intro c e ihe p h
    simp only [TF.ok_lt, TF.ok_nm, TF.ok_br] at h
    obtain ⟨h1, h2, h3⟩ := h
    simp only [TF.rd_lt, TF.rd_nm, TF.rd_br, TF.nu_lt, TF.nu_nm, TF.nu_br, Nu.name]
    rw [let_no (by rw [h2]; exact nm_let h1), let_no (by decide), List.filter_append, List.length_append, ihe _ h3]
    simp [cL]
  · intro o es _ ihb p h
    simp only [TF.ok_lt, TF.ok_nm, TF.ok_br] at h
    obtain ⟨h1, h2, _, h3⟩ := h
    simp only [TF.rd_lt, TF.rd_nm, TF.rd_br, TF.nu_lt, TF.nu_nm, TF.nu_br, Nu.brk]
    rw [let_no (by rw [h2]; exact op_let h1), List.filter_append, List.length_append]
    have hcl : ([cC o].filter fun c => cL c) = [] := by rw [let_no (cl_let o)]; rfl
    rw [hcl]
    cases es with
    | nil => simp [TEs.rd_nil, TEs.rd_cons, TEs.nu_nil, TEs.nu_cons, Nu.zero]
    | cons e es =>
      simp only [TEs.ok_nil, TEs.ok_cons] at h3
      simp only [TEs.rd_nil, TEs.rd_cons, TEs.nu_nil, TEs.nu_cons, Nu.add, Nu.more, List.filter_append, List.length_append, List.length_nil]
      rw [(ihb _ _ rfl).1 _ h3.1, (ihb _ _ rfl).2 _ h3.2]; rfl
  · intro x h
    simp [TEs.rt_nil, TEs.rt_cons, TEs.nu_nil, TEs.nu_cons, Nu.zero]
  · intro e es ihe ihes x h
    simp only [TEs.ok_nil, TEs.ok_cons] at h
    simp only [TEs.rt_nil, TEs.rt_cons, TEs.nu_nil, TEs.nu_cons, Nu.add, Nu.more]
    rw [let_no (by decide), List.filter_append, List.length_append, ihe _ h.1, ihes _ h.2]
theorem TE.nu_wl : ∀ (e : (TE TF)) (x : Nat), e.ok s x → (e.rd.filter fun c => cL c).length = e.nu.wl := nu_wl_all.1
theorem TFs.nu_wl : ∀ (fs : TFs) (l : List Nat), (TFs.ok s fs) l → ((TFs.rd fs).filter fun c => cL c).length = (TFs.nu fs).wl := nu_wl_all.2.1
theorem TF.nu_wl : ∀ (f : TF) (p : Nat), f.ok s p → (f.rd.filter fun c => cL c).length = f.nu.wl := nu_wl_all.2.2.1
theorem TEs.nu_wl : ∀ (es : TEs) (x : Nat), (TEs.ok s es) x → ((TEs.rt es).filter fun c => cL c).length = (TEs.nu es).wl := nu_wl_all.2.2.2
theorem inn_ok_all (c : Int) : (∀ z, (fun (e : (TE TF)) => ∀ (x : Nat) (g : TF), e.ok s x → g ∈ e.inn c → ∀ p : Nat, cN (bt s p) = true → bt s p = c → g.ok s p) z) ∧ (∀ z, (fun (fs : TFs) => ∀ (l : List Nat) (g : TF), (TFs.ok s fs) l → g ∈ (TFs.inn c fs) → ∀ p : Nat, cN (bt s p) = true → bt s p = c → g.ok s p) z) ∧ (∀ z, (fun (f : TF) => ∀ (p' : Nat) (g : TF), f.ok s p' → g ∈ f.inn c → ∀ p : Nat, cN (bt s p) = true → bt s p = c → g.ok s p) z) ∧ (∀ z, (fun (es : TEs) => ∀ (x : Nat) (g : TF), (TEs.ok s es) x → g ∈ (TEs.inn c es) → ∀ p : Nat, cN (bt s p) = true → bt s p = c → g.ok s p) z) := by
  refine tree_ind ?_ ?_ ?_ ?_ ?_ ?_ ?_ ?_
  · intro d fs ihfs x g h hg p hp hc
    simp only [TE.ok_mk] at h
    obtain ⟨_, a, _, h2⟩ := h
    simp only [TE.inn_mk] at hg
    exact ihfs _ g h2 hg p hp hc
  · intro l g h hg p hp hc
    simp [TFs.inn_nil, TFs.inn_cons] at hg
  · intro f fs ihf ihfs l g h hg p hp hc
    simp only [TFs.ok_nil, TFs.ok_cons] at h
    obtain ⟨p', q', _, h1, h2⟩ := h
    simp only [TFs.inn_nil, TFs.inn_cons, List.mem_append] at hg
    rcases hg with hg | hg
    · exact ihf p' g h1 hg p hp hc
    · exact ihfs q' g h2 hg p hp hc
  · intro _ p' g h hg p hp hc
    simp [TF.inn_lt, TF.inn_nm, TF.inn_br] at hg
  · intro c' e ihe p' g h hg p hp hc
    simp only [TF.ok_lt, TF.ok_nm, TF.ok_br] at h
    obtain ⟨h1, h2, h3⟩ := h
    simp only [TF.inn_lt, TF.inn_nm, TF.inn_br, List.mem_append] at hg
    rcases hg with hg | hg
    · split at hg
      · rename_i hcc
        simp at hg
        subst hg
        simp only [TF.ok_lt, TF.ok_nm, TF.ok_br]
        refine ⟨hp, by omega, ?_⟩
        rw [show bt s p = bt s p' by omega]; exact h3
      · simp at hg
    · exact ihe _ g h3 hg p hp hc
  · intro o es ihes _ p' g h hg p hp hc
    simp only [TF.ok_lt, TF.ok_nm, TF.ok_br] at h
    obtain ⟨_, _, _, h3⟩ := h
    simp only [TF.inn_lt, TF.inn_nm, TF.inn_br] at hg
    exact ihes _ g h3 hg p hp hc
  · intro x g h hg p hp hc
    simp [TEs.inn_nil, TEs.inn_cons] at hg
  · intro e es ihe ihes x g h hg p hp hc
    simp only [TEs.ok_nil, TEs.ok_cons] at h
    simp only [TEs.inn_nil, TEs.inn_cons, List.mem_append] at hg
    rcases hg with hg | hg
    · exact ihe x g h.1 hg p hp hc
    · exact ihes x g h.2 hg p hp hc
theorem TE.inn_ok (c : Int) : ∀ (e : (TE TF)) (x : Nat) (g : TF), e.ok s x → g ∈ e.inn c → ∀ p : Nat, cN (bt s p) = true → bt s p = c → g.ok s p := (inn_ok_all c).1
theorem TFs.inn_ok (c : Int) : ∀ (fs : TFs) (l : List Nat) (g : TF), (TFs.ok s fs) l → g ∈ (TFs.inn c fs) → ∀ p : Nat, cN (bt s p) = true → bt s p = c → g.ok s p := (inn_ok_all c).2.1
theorem TF.inn_ok (c : Int) : ∀ (f : TF) (p' : Nat) (g : TF), f.ok s p' → g ∈ f.inn c → ∀ p : Nat, cN (bt s p) = true → bt s p = c → g.ok s p := (inn_ok_all c).2.2.1
theorem TEs.inn_ok (c : Int) : ∀ (es : TEs) (x : Nat) (g : TF), (TEs.ok s es) x → g ∈ (TEs.inn c es) → ∀ p : Nat, cN (bt s p) = true → bt s p = c → g.ok s p := (inn_ok_all c).2.2.2
theorem TEs.del_ok : ∀ (es : TEs) (k x : Nat), (TEs.ok s es) x → (TEs.ok s (TEs.del es k)) x
  | .nil, k, x, h => by simp [TEs.del, TEs.ok_nil, TEs.ok_cons]
  | .cons e es, 0, x, h => by simp only [TEs.ok_nil, TEs.ok_cons] at h; simp only [TEs.del]; exact h.2
  | .cons e es, k + 1, x, h => by
    simp only [TEs.ok_nil, TEs.ok_cons] at h
    simp only [TEs.del, TEs.ok_nil, TEs.ok_cons]
    exact ⟨h.1, TEs.del_ok es k x h.2⟩
theorem okN_del {o : Int} {n : Nat} (h : 0 < ownN o (n + 1)) : okN o n := by
  unfold ownN at h
  refine ⟨fun e => ?_, fun e => ?_, fun e => ?_⟩
  · subst e; simp at h
  · subst e
    simp only [if_true] at h
    split at h <;> omega
  · subst e
    simp at h
    split at h <;> omega
theorem st_ok_all : (∀ z, (fun (e : (TE TF)) => ∀ (e' : (TE TF)) (x : Nat), e.ok s x → e' ∈ e.st → e'.ok s x) z) ∧ (∀ z, (fun (fs : TFs) => ∀ (fs' : TFs) (l : List Nat), (TFs.ok s fs) l → fs' ∈ (TFs.st fs) → (TFs.ok s fs') l) z) ∧ (∀ z, (fun (f : TF) => ∀ (f' : TF) (p : Nat), f.ok s p → f' ∈ f.st → f'.ok s p) z) ∧ (∀ z, (fun (es : TEs) => ∀ (es' : TEs) (x : Nat), (TEs.ok s es) x → es' ∈ (TEs.st es) → (TEs.ok s es') x) z) := by
  refine tree_ind ?_ ?_ ?_ ?_ ?_ ?_ ?_ ?_
  · intro d fs ihfs e' x h he
    simp only [TE.st_mk, List.mem_map] at he
    obtain ⟨fs', h1, rfl⟩ := he
    simp only [TE.ok_mk] at h ⊢
    obtain ⟨hd, a, ha, h2⟩ := h
    exact ⟨hd, a, ha, ihfs fs' _ h2 h1⟩
  · intro fs' l h he
    simp [TFs.st_nil, TFs.st_cons] at he
  · intro f fs ihf ihfs fs' l h he
    simp only [TFs.ok_nil, TFs.ok_cons] at h
    obtain ⟨p, q, hl, h1, h2⟩ := h
    simp only [TFs.st_nil, TFs.st_cons, List.mem_append, List.mem_map] at he
    rcases he with ⟨f', g1, rfl⟩ | ⟨g, g1, rfl⟩
    · simp only [TFs.ok_nil, TFs.ok_cons]; exact ⟨p, q, hl, ihf f' p h1 g1, h2⟩
    · simp only [TFs.ok_nil, TFs.ok_cons]; exact ⟨p, q, hl, h1, ihfs g q h2 g1⟩
  · intro _ f' p h he
    simp [TF.st_lt, TF.st_nm, TF.st_br] at he
  · intro c e ihe f' p h he
    simp only [TF.ok_lt, TF.ok_nm, TF.ok_br] at h
    obtain ⟨h1, h2, h3⟩ := h
    simp only [TF.st_lt, TF.st_nm, TF.st_br, List.mem_append, List.mem_map] at he
    rcases he with he | ⟨e', g1, rfl⟩
    · exact TE.inn_ok c e _ f' h3 he p h1 h2.symm
    · simp only [TF.ok_lt, TF.ok_nm, TF.ok_br]; exact ⟨h1, h2, ihe e' _ h3 g1⟩
  · intro o es ihes _ f' p h he
    simp only [TF.ok_lt, TF.ok_nm, TF.ok_br] at h
    obtain ⟨h1, h2, h3, h4⟩ := h
    simp only [TF.st_lt, TF.st_nm, TF.st_br, List.mem_append, List.mem_map] at he
    rcases he with ⟨k, g1, rfl⟩ | ⟨es', g1, rfl⟩
    · have hk : k < ownN o (TEs.len es) := by simpa using g1
      have hk' : k < (TEs.len es) := Nat.lt_of_lt_of_le hk (ownN_le _ _)
      simp only [TF.ok_lt, TF.ok_nm, TF.ok_br]
      refine ⟨h1, h2, okN_del (by rw [TEs.del_len es k hk']; omega), TEs.del_ok es k _ h4⟩
    · simp only [TF.ok_lt, TF.ok_nm, TF.ok_br]
      rw [(TEs.st_le es es' g1).2.2]
      exact ⟨h1, h2, h3, ihes es' _ h4 g1⟩
  · intro es' x h he
    simp [TEs.st_nil, TEs.st_cons] at he
  · intro e es ihe ihes es' x h he
    simp only [TEs.ok_nil, TEs.ok_cons] at h
    simp only [TEs.st_nil, TEs.st_cons, List.mem_append, List.mem_map] at he
    rcases he with ⟨e', g1, rfl⟩ | ⟨g, g1, rfl⟩
    · simp only [TEs.ok_nil, TEs.ok_cons]; exact ⟨ihe e' x h.1 g1, h.2⟩
    · simp only [TEs.ok_nil, TEs.ok_cons]; exact ⟨h.1, ihes g x h.2 g1⟩
theorem TE.st_ok : ∀ (e e' : (TE TF)) (x : Nat), e.ok s x → e' ∈ e.st → e'.ok s x := st_ok_all.1
theorem TFs.st_ok : ∀ (fs fs' : TFs) (l : List Nat), (TFs.ok s fs) l → fs' ∈ (TFs.st fs) → (TFs.ok s fs') l := st_ok_all.2.1
theorem TF.st_ok : ∀ (f f' : TF) (p : Nat), f.ok s p → f' ∈ f.st → f'.ok s p := st_ok_all.2.2.1
theorem TEs.st_ok : ∀ (es es' : TEs) (x : Nat), (TEs.ok s es) x → es' ∈ (TEs.st es) → (TEs.ok s es') x := st_ok_all.2.2.2
end
end Go.Proofs.Ytnfaiaoipeholaa
/- Trees as trees: how many steps there may be. No Go here. -/
namespace Go.Proofs.Ytnfaiaoipeholaa
set_option linter.unusedSimpArgs false
set_option linter.unusedVariables false
def ntA : Alg (Nat × Nat) where
  e _ _ r := r
  n0 := (0, 0)
  n1 _ _ r q := (r.1 + q.1, r.2 + q.2)
  lt _ := (0, 0)
  nm _ _ r := (r.1 + 1, r.2)
  br o es r := (r.1, ownN o (TEs.len es) + r.2)
  g0 := (0, 0)
  g1 _ _ r q := (r.1 + q.1, r.2 + q.2)
/-- how many names; how many steps brackets have of their own -/
def TE.nt (e : (TE TF)) : Nat × Nat := (para ntA (.inl (.inl e)))
def TFs.nt (fs : TFs) : Nat × Nat := (para ntA (.inl (.inr fs)))
def TF.nt (f : TF) : Nat × Nat := (para ntA (.inr (.inl f)))
def TEs.nt (es : TEs) : Nat × Nat := (para ntA (.inr (.inr es)))
theorem TE.nt_mk (d : Nat) (fs : TFs) : TE.nt ⟨d, fs⟩ = TFs.nt fs := by unfold TE.nt TFs.nt; rw [para_e]; rfl
theorem TFs.nt_nil : TFs.nt [] = (0, 0) := by unfold TFs.nt; rw [para_n0]; rfl
theorem TFs.nt_cons (f : TF) (fs : TFs) : TFs.nt (f :: fs) = (f.nt.1 + (TFs.nt fs).1, f.nt.2 + (TFs.nt fs).2) := by unfold TFs.nt TF.nt; rw [para_n1]; rfl
theorem TF.nt_lt (c_ : Int) : TF.nt (TF.lt c_) = (0, 0) := by unfold TF.nt; rw [para_lt]; rfl
theorem TF.nt_nm (c_ : Int) (e : (TE TF)) : TF.nt (TF.nm c_ e) = (e.nt.1 + 1, e.nt.2) := by unfold TF.nt TE.nt; rw [para_nm]; rfl
theorem TF.nt_br (o : Int) (es : TEs) : TF.nt (TF.br o es) = ((TEs.nt es).1, ownN o (TEs.len es) + (TEs.nt es).2) := by unfold TF.nt TEs.nt; rw [para_br]; rfl
theorem TEs.nt_nil : TEs.nt [] = (0, 0) := by unfold TEs.nt; rw [para_g0]; rfl
theorem TEs.nt_cons (e : (TE TF)) (es : TEs) : TEs.nt (e :: es) = (e.nt.1 + (TEs.nt es).1, e.nt.2 + (TEs.nt es).2) := by unfold TEs.nt TE.nt; rw [para_g1]; rfl
/-- what holds of these numbers -/
structure Nb (u : Nu) (n : Nat × Nat) : Prop where
  nc : ∀ c, u.nc c ≤ n.1
  sn : u.sn ≤ u.ht * n.1 + n.2
theorem Nb.add {u v : Nu} {n m : Nat × Nat} (h : Nb u n) (g : Nb v m) : Nb (u.add v) (n.1 + m.1, n.2 + m.2) := by
  refine ⟨fun c => by have := h.nc c; have := g.nc c; simp [Nu.add]; omega, ?_⟩
  have h1 := h.sn
  have g1 := g.sn
  have a1 : u.ht * n.1 ≤ max u.ht v.ht * n.1 := Nat.mul_le_mul_right _ (Nat.le_max_left _ _)
  have a2 : v.ht * m.1 ≤ max u.ht v.ht * m.1 := Nat.mul_le_mul_right _ (Nat.le_max_right _ _)
  simp only [Nu.add]
  rw [Nat.mul_add]
  omega
theorem nb_all : (∀ z, (fun (e : (TE TF)) => Nb e.nu e.nt) z) ∧ (∀ z, (fun (fs : TFs) => Nb (TFs.nu fs) (TFs.nt fs)) z) ∧ (∀ z, (fun (f : TF) => Nb f.nu f.nt) z) ∧ (∀ z, (fun (es : TEs) => Nb (TEs.nu es) (TEs.nt es)) z) := by
  refine tree_ind ?_ ?_ ?_ ?_ ?_ ?_ ?_ ?_
  · intro _ fs ihfs
    have h := ihfs
    simp only [TE.nu_mk, TE.nt_mk]
    exact ⟨h.nc, h.sn⟩
  · simp only [TFs.nu_nil, TFs.nu_cons, TFs.nt_nil, TFs.nt_cons]; exact ⟨fun _ => Nat.le_refl _, by simp [Nu.zero]⟩
  · intro f fs ihf ihfs
    simp only [TFs.nu_nil, TFs.nu_cons, TFs.nt_nil, TFs.nt_cons]; exact (ihf).add (ihfs)
  · intro _
    simp only [TF.nu_lt, TF.nu_nm, TF.nu_br, TF.nt_lt, TF.nt_nm, TF.nt_br]; exact ⟨fun _ => Nat.le_refl _, by simp⟩
  · intro c e ihe
    have h := ihe
    simp only [TF.nu_lt, TF.nu_nm, TF.nu_br, TF.nt_lt, TF.nt_nm, TF.nt_br]
    refine ⟨fun c' => by have := h.nc c'; simp only [Nu.name]; split <;> omega, ?_⟩
    have h1 := h.sn
    have h2 := h.nc c
    simp only [Nu.name]
    have h3 : (e.nu.ht + 1) * (e.nt.1 + 1) = e.nu.ht * e.nt.1 + e.nu.ht + e.nt.1 + 1 := by
      rw [Nat.add_mul, Nat.mul_add]; omega
    omega
  · intro o es ihes _
    have h := ihes
    simp only [TF.nu_lt, TF.nu_nm, TF.nu_br, TF.nt_lt, TF.nt_nm, TF.nt_br]
    have h1 := h.sn
    exact ⟨h.nc, by simp only [Nu.brk]; omega⟩
  · simp only [TEs.nu_nil, TEs.nu_cons, TEs.nt_nil, TEs.nt_cons]; exact ⟨fun _ => Nat.le_refl _, by simp [Nu.zero]⟩
  · intro e es ihe ihes
    have h := ihe
    have h' : Nb (e.nu.more 1) e.nt := ⟨h.nc, h.sn⟩
    simp only [TEs.nu_nil, TEs.nu_cons, TEs.nt_nil, TEs.nt_cons]
    exact h'.add (ihes)
theorem TE.nb : ∀ e : (TE TF), Nb e.nu e.nt := nb_all.1
theorem TFs.nb : ∀ fs : TFs, Nb (TFs.nu fs) (TFs.nt fs) := nb_all.2.1
theorem TF.nb : ∀ f : TF, Nb f.nu f.nt := nb_all.2.2.1
theorem TEs.nb : ∀ es : TEs, Nb (TEs.nu es) (TEs.nt es) := nb_all.2.2.2
theorem sb_all : (∀ z, (fun (e : (TE TF)) => 4 * e.nt.1 + 2 * e.nt.2 + 1 ≤ e.nu.sz) z) ∧ (∀ z, (fun (fs : TFs) => 4 * (TFs.nt fs).1 + 2 * (TFs.nt fs).2 ≤ (TFs.nu fs).sz) z) ∧ (∀ z, (fun (f : TF) => 4 * f.nt.1 + 2 * f.nt.2 ≤ f.nu.sz) z) ∧ (∀ z, (fun (es : TEs) => 4 * (TEs.nt es).1 + 2 * (TEs.nt es).2 + 2 * (TEs.len es) ≤ (TEs.nu es).sz) z) := by
  refine tree_ind ?_ ?_ ?_ ?_ ?_ ?_ ?_ ?_
  · intro _ fs ihfs
    have := ihfs; simp only [TE.nu_mk, TE.nt_mk, Nu.more]; omega
  · simp [TFs.nt_nil, TFs.nt_cons]
  · intro f fs ihf ihfs
    have := ihf; have := ihfs; simp only [TFs.nu_nil, TFs.nu_cons, TFs.nt_nil, TFs.nt_cons, Nu.add]; omega
  · intro _
    simp [TF.nt_lt, TF.nt_nm, TF.nt_br]
  · intro _ e ihe
    have := ihe; simp only [TF.nu_lt, TF.nu_nm, TF.nu_br, TF.nt_lt, TF.nt_nm, TF.nt_br, Nu.name]; omega
  · intro o es ihes _
    have := ihes; have := ownN_le o (TEs.len es); simp only [TF.nu_lt, TF.nu_nm, TF.nu_br, TF.nt_lt, TF.nt_nm, TF.nt_br, Nu.brk]; omega
  · simp [TEs.nt_nil, TEs.nt_cons, TEs.len]
  · intro e es ihe ihes
    have := ihe; have := ihes; simp only [TEs.nu_nil, TEs.nu_cons, TEs.nt_nil, TEs.nt_cons, TEs.len, Nu.add, Nu.more]; omega
theorem TE.sb : ∀ e : (TE TF), 4 * e.nt.1 + 2 * e.nt.2 + 1 ≤ e.nu.sz := sb_all.1
theorem TFs.sb : ∀ fs : TFs, 4 * (TFs.nt fs).1 + 2 * (TFs.nt fs).2 ≤ (TFs.nu fs).sz := sb_all.2.1
theorem TF.sb : ∀ f : TF, 4 * f.nt.1 + 2 * f.nt.2 ≤ f.nu.sz := sb_all.2.2.1
theorem TEs.sb : ∀ es : TEs, 4 * (TEs.nt es).1 + 2 * (TEs.nt es).2 + 2 * (TEs.len es) ≤ (TEs.nu es).sz := sb_all.2.2.2
/-- a tree that is not too long and not too high has not too many steps -/
theorem TF.steps_le (f : TF) (h1 : f.rd.length ≤ 2000) (h2 : f.ht ≤ 9) : f.st.length ≤ 9999 := by
  rw [TF.nu_len] at h1
  rw [TF.nu_ht] at h2
  rw [TF.nu_sn]
  have h3 := (TF.nb f).sn
  have h4 := TF.sb f
  have h5 : f.nu.ht * f.nt.1 ≤ 9 * f.nt.1 := Nat.mul_le_mul_right _ h2
  omega
end Go.Proofs.Ytnfaiaoipeholaa
/- Texts of trees: where a bracket closes, what its elements are. No Go here. -/
namespace Go.Proofs.Ytnfaiaoipeholaa
set_option linter.unusedSimpArgs false
set_option linter.unusedVariables false
section
variable {s t : ByteArray}
theorem mtK_plain {j : Nat} {d : Int} (h : bt t j ≠ 0) (h1 : cO (bt t j) = false) (h2 : cX (bt t j) = false) : mtD t j d = mtD t (j + 1) d := by
  rw [mtD_step (bt_lt h), if_neg (by simp [h1]), if_neg (by simp [h2])]
theorem mtK_open {j : Nat} {d : Int} (h1 : cO (bt t j) = true) : mtD t j d = mtD t (j + 1) (d + 1) := by
  rw [mtD_step (bt_lt (by intro h0; rw [h0] at h1; exact absurd h1 (by decide))), if_pos h1]
theorem mtK_close {j : Nat} {d : Int} (h2 : cX (bt t j) = true) : mtD t j d = if d - 1 = 0 then j else mtD t (j + 1) (d - 1) := by
  have h1 : cO (bt t j) = false := (close_not h2).2.2.1
  rw [mtD_step (bt_lt (by intro h0; rw [h0] at h2; exact absurd h2 (by decide))), if_neg (by simp [h1]), if_pos h2]
/-- a byte that is no bracket, no comma -/
def Pl (c : Int) : Prop := c ≠ 0 ∧ cO c = false ∧ cX c = false ∧ c ≠ 44
theorem pl_dig {d : Nat} (h : d ≤ 9) : Pl (48 + (d : Int)) := by
  refine ⟨by omega, ?_, ?_, by omega⟩
  · cases e : cO (48 + (d : Int))
    · rfl
    · have := cO_vals e; omega
  · cases e : cX (48 + (d : Int))
    · rfl
    · have := cX_vals e; omega
theorem pl_let {c : Int} (h : cL c = true) : Pl c := by
  have hv : 97 ≤ c ∧ c ≤ 122 := by simpa [cL] using h
  have := plain_not (c := c) (.inl (by simp [h]))
  exact ⟨by omega, this.1, this.2, by omega⟩
theorem pl_nam {c : Int} (h : cN c = true) : Pl c := by
  have hv : 65 ≤ c ∧ c ≤ 90 := by simpa [cN] using h
  have := plain_not (c := c) (.inl (by simp [h]))
  exact ⟨by omega, this.1, this.2, by omega⟩
theorem pl_com : cO 44 = false ∧ cX 44 = false ∧ (44 : Int) ≠ 0 := by decide
/-- over these bytes the depth comes back -/
def Bal (t : ByteArray) (L : List Int) : Prop := ∀ i (d : Int), 1 ≤ d → At t i L → mtD t i d = mtD t (i + L.length) d
theorem Bal.nil : Bal t [] := fun _ _ _ _ => rfl
theorem Bal.plain {c : Int} {L : List Int} (h : c ≠ 0) (h1 : cO c = false) (h2 : cX c = false) (g : Bal t L) : Bal t (c :: L) := fun i d hd hA => by
  have hb := hA.head
  rw [mtK_plain (by rw [hb]; exact h) (by rw [hb]; exact h1) (by rw [hb]; exact h2), g (i + 1) d hd hA.tail]
  simp only [List.length_cons]; congr 1; omega
theorem Bal.app {A B : List Int} (h : Bal t A) (g : Bal t B) : Bal t (A ++ B) := fun i d hd hA => by
  rw [h i d hd hA.left, g _ d hd hA.right]
  simp only [List.length_append]; congr 1; omega
theorem Bal.brk {o c : Int} {L : List Int} (ho : cO o = true) (hc : cX c = true) (g : Bal t L) : Bal t (o :: (L ++ [c])) := fun i d hd hA => by
  have hb := hA.head
  have hA2 := hA.tail
  have hcl : bt t ((i + 1 + L.length : Nat) : Int) = c := hA2.right.head
  rw [mtK_open (by rw [hb]; exact ho), g (i + 1) (d + 1) (by omega) hA2.left, mtK_close (by rw [hcl]; exact hc), if_neg (by omega)]
  simp only [List.length_cons, List.length_append, List.length_nil]
  rw [show d + 1 - 1 = d by omega]; congr 1; omega
theorem bal_all : (∀ z, (fun (e : (TE TF)) => ∀ (x : Nat), e.ok s x → Bal t e.rd) z) ∧ (∀ z, (fun (fs : TFs) => ∀ (l : List Nat), (TFs.ok s fs) l → Bal t (TFs.rd fs)) z) ∧ (∀ z, (fun (f : TF) => ∀ (p : Nat), f.ok s p → Bal t f.rd) z) ∧ (∀ z, (fun (es : TEs) => ∀ (x : Nat), (TEs.ok s es) x → Bal t (TEs.rt es)) z) := by
  refine tree_ind ?_ ?_ ?_ ?_ ?_ ?_ ?_ ?_
  · intro d fs ihfs x h
    simp only [TE.ok_mk] at h
    obtain ⟨hd, a, _, h2⟩ := h
    simp only [TE.rd_mk]
    have hp := pl_dig hd
    exact Bal.plain hp.1 hp.2.1 hp.2.2.1 (ihfs _ h2)
  · intro l h
    simp only [TFs.rd_nil, TFs.rd_cons]; exact Bal.nil
  · intro f fs ihf ihfs l h
    simp only [TFs.ok_nil, TFs.ok_cons] at h
    obtain ⟨p, q, _, h1, h2⟩ := h
    simp only [TFs.rd_nil, TFs.rd_cons]
    exact (ihf p h1).app (ihfs q h2)
  · intro c p h
    simp only [TF.ok_lt, TF.ok_nm, TF.ok_br] at h
    obtain ⟨h1, h2⟩ := h
    simp only [TF.rd_lt, TF.rd_nm, TF.rd_br]
    have hp := pl_let (c := c) (by rw [h2]; exact h1)
    exact Bal.plain hp.1 hp.2.1 hp.2.2.1 Bal.nil
  · intro c e ihe p h
    simp only [TF.ok_lt, TF.ok_nm, TF.ok_br] at h
    obtain ⟨h1, h2, h3⟩ := h
    simp only [TF.rd_lt, TF.rd_nm, TF.rd_br]
    have hp := pl_nam (c := c) (by rw [h2]; exact h1)
    exact Bal.plain hp.1 hp.2.1 hp.2.2.1 (Bal.brk (by decide) (by decide) (ihe _ h3))
  · intro o es _ ihb p h
    simp only [TF.ok_lt, TF.ok_nm, TF.ok_br] at h
    obtain ⟨h1, h2, _, h3⟩ := h
    have hc0 : cC o ≠ 0 := by rw [h2]; simpa [cO] using h1
    simp only [TF.rd_lt, TF.rd_nm, TF.rd_br]
    refine Bal.brk (by rw [h2]; exact h1) (cX_cC _ hc0) ?_
    cases es with
    | nil => simp only [TEs.rd_nil, TEs.rd_cons]; exact Bal.nil
    | cons e es =>
      simp only [TEs.ok_nil, TEs.ok_cons] at h3
      simp only [TEs.rd_nil, TEs.rd_cons]
      exact ((ihb _ _ rfl).1 _ h3.1).app ((ihb _ _ rfl).2 _ h3.2)
  · intro x h
    simp only [TEs.rt_nil, TEs.rt_cons]; exact Bal.nil
  · intro e es ihe ihes x h
    simp only [TEs.ok_nil, TEs.ok_cons] at h
    simp only [TEs.rt_nil, TEs.rt_cons]
    exact Bal.plain pl_com.2.2 pl_com.1 pl_com.2.1 ((ihe _ h.1).app (ihes _ h.2))
theorem TE.bal : ∀ (e : (TE TF)) (x : Nat), e.ok s x → Bal t e.rd := bal_all.1
theorem TFs.bal : ∀ (fs : TFs) (l : List Nat), (TFs.ok s fs) l → Bal t (TFs.rd fs) := bal_all.2.1
theorem TF.bal : ∀ (f : TF) (p : Nat), f.ok s p → Bal t f.rd := bal_all.2.2.1
theorem TEs.bal : ∀ (es : TEs) (x : Nat), (TEs.ok s es) x → Bal t (TEs.rt es) := bal_all.2.2.2
theorem TEs.balr (es : TEs) (x : Nat) (h : (TEs.ok s es) x) : Bal t (TEs.rd es) := by
  cases es with
  | nil => simp only [TEs.rd_nil, TEs.rd_cons]; exact Bal.nil
  | cons e es =>
    simp only [TEs.ok_nil, TEs.ok_cons] at h
    simp only [TEs.rd_nil, TEs.rd_cons]
    exact (TE.bal e _ h.1).app (TEs.bal es _ h.2)
/-- a bracket closes behind what is in it -/
theorem mt_brk {o c : Int} {L : List Int} {i : Nat} (ho : cO o = true) (hc : cX c = true) (g : Bal t L) (hA : At t i (o :: (L ++ [c]))) : mt t i = i + 1 + L.length := by
  have hb := hA.head
  have hA2 := hA.tail
  have hcl : bt t ((i + 1 + L.length : Nat) : Int) = c := hA2.right.head
  unfold mt
  rw [mtK_open (by rw [hb]; exact ho), g (i + 1) (0 + 1) (by omega) hA2.left, mtK_close (by rw [hcl]; exact hc), if_pos (by omega)]

/-- the elements' spans, up to an end: from this place on, the one that is open having begun there -/
def spF (t : ByteArray) (e : Nat) : Nat → Nat → Nat → List (Nat × Nat)
  | 0, _, fr => [(fr, e)]
  | n + 1, j, fr => if e ≤ j then [(fr, e)]
    else if cO (bt t j) = true then spF t e n (mt t j + 1) fr
    else if bt t j = 44 then (fr, j) :: spF t e n (j + 1) (j + 1)
    else spF t e n (j + 1) fr
/-- the spans of what is in the bracket that opens here -/
def elS (t : ByteArray) (i : Nat) : List (Nat × Nat) := if i + 1 < mt t i then spF t (mt t i) t.size (i + 1) (i + 1) else []
/-- over these bytes nothing is cut -/
def Cut0 (t : ByteArray) (L : List Int) : Prop := ∀ e n i fr, At t i L → i + L.length ≤ e → L.length ≤ n → ∃ n', n - L.length ≤ n' ∧ spF t e n i fr = spF t e n' (i + L.length) fr
theorem Cut0.nil : Cut0 t [] := fun _ n _ _ _ _ _ => ⟨n, by simp, rfl⟩
theorem Cut0.app {A B : List Int} (h : Cut0 t A) (g : Cut0 t B) : Cut0 t (A ++ B) := fun e n i fr hA he hn => by
  simp only [List.length_append] at he hn ⊢
  obtain ⟨n1, q1, q2⟩ := h e n i fr hA.left (by omega) (by omega)
  obtain ⟨n2, q3, q4⟩ := g e n1 (i + A.length) fr hA.right (by omega) (by omega)
  exact ⟨n2, by omega, by rw [q2, q4]; congr 1; omega⟩
theorem Cut0.plain {c : Int} {L : List Int} (h : Pl c) (g : Cut0 t L) : Cut0 t (c :: L) := fun e n i fr hA he hn => by
  simp only [List.length_cons] at he hn ⊢
  obtain ⟨m, rfl⟩ : ∃ m, n = m + 1 := ⟨n - 1, by omega⟩
  obtain ⟨n2, q3, q4⟩ := g e m (i + 1) fr hA.tail (by omega) (by omega)
  have hb := hA.head
  refine ⟨n2, by omega, ?_⟩
  conv => lhs; unfold spF
  rw [if_neg (by omega), if_neg (by rw [hb, h.2.1]; decide), if_neg (by rw [hb]; exact h.2.2.2), q4]
  congr 1; omega
theorem Cut0.brk {o c : Int} {L : List Int} (ho : cO o = true) (hc : cX c = true) (g : Bal t L) : Cut0 t (o :: (L ++ [c])) := fun e n i fr hA he hn => by
  simp only [List.length_cons, List.length_append, List.length_nil] at he hn ⊢
  obtain ⟨m, rfl⟩ : ∃ m, n = m + 1 := ⟨n - 1, by omega⟩
  have hb := hA.head
  refine ⟨m, by omega, ?_⟩
  conv => lhs; unfold spF
  rw [if_neg (by omega), if_pos (by rw [hb]; exact ho), mt_brk ho hc g hA]
  congr 1; omega
theorem cut_all : (∀ z, (fun (e : (TE TF)) => ∀ (x : Nat), e.ok s x → Cut0 t e.rd) z) ∧ (∀ z, (fun (fs : TFs) => ∀ (l : List Nat), (TFs.ok s fs) l → Cut0 t (TFs.rd fs)) z) ∧ (∀ z, (fun (f : TF) => ∀ (p : Nat), f.ok s p → Cut0 t f.rd) z) ∧ (∀ z, (fun (_ : TEs) => True) z) := by
  refine tree_ind ?_ ?_ ?_ ?_ ?_ ?_ ?_ ?_
  · intro d fs ihfs x h
    simp only [TE.ok_mk] at h
    obtain ⟨hd, a, _, h2⟩ := h
    simp only [TE.rd_mk]
    exact Cut0.plain (pl_dig hd) (ihfs _ h2)
  · intro l h
    simp only [TFs.rd_nil, TFs.rd_cons]; exact Cut0.nil
  · intro f fs ihf ihfs l h
    simp only [TFs.ok_nil, TFs.ok_cons] at h
    obtain ⟨p, q, _, h1, h2⟩ := h
    simp only [TFs.rd_nil, TFs.rd_cons]
    exact (ihf p h1).app (ihfs q h2)
  · intro c p h
    simp only [TF.ok_lt, TF.ok_nm, TF.ok_br] at h
    obtain ⟨h1, h2⟩ := h
    simp only [TF.rd_lt, TF.rd_nm, TF.rd_br]
    exact Cut0.plain (pl_let (by rw [h2]; exact h1)) Cut0.nil
  · intro c e _ p h
    simp only [TF.ok_lt, TF.ok_nm, TF.ok_br] at h
    obtain ⟨h1, h2, h3⟩ := h
    simp only [TF.rd_lt, TF.rd_nm, TF.rd_br]
    exact Cut0.plain (pl_nam (by rw [h2]; exact h1)) (Cut0.brk (by decide) (by decide) (TE.bal e _ h3))
  · intro o es _ _ p h
    simp only [TF.ok_lt, TF.ok_nm, TF.ok_br] at h
    obtain ⟨h1, h2, _, h3⟩ := h
    have hc0 : cC o ≠ 0 := by rw [h2]; simpa [cO] using h1
    simp only [TF.rd_lt, TF.rd_nm, TF.rd_br]
    exact Cut0.brk (by rw [h2]; exact h1) (cX_cC _ hc0) (TEs.balr es _ h3)
  · exact trivial
  · exact fun _ _ _ _ => trivial
theorem TE.cut : ∀ (e : (TE TF)) (x : Nat), e.ok s x → Cut0 t e.rd := cut_all.1
theorem TFs.cut : ∀ (fs : TFs) (l : List Nat), (TFs.ok s fs) l → Cut0 t (TFs.rd fs) := cut_all.2.1
theorem TF.cut : ∀ (f : TF) (p : Nat), f.ok s p → Cut0 t f.rd := cut_all.2.2.1
/-- the spans of elements -/
def TEs.sp : TEs → Nat → List (Nat × Nat)
  | .nil, _ => []
  | .cons e es, i => (i, i + e.rd.length) :: (TEs.sp es) (i + e.rd.length + 1)
theorem TEs.spF_ : ∀ (es : TEs) (e : (TE TF)) (x n i : Nat), e.ok s x → (TEs.ok s es) x → At t i (e.rd ++ (TEs.rt es)) → (e.rd ++ (TEs.rt es)).length ≤ n → spF t (i + (e.rd ++ (TEs.rt es)).length) n i i = (i, i + e.rd.length) :: (TEs.sp es) (i + e.rd.length + 1)
  | .nil, e, x, n, i, h1, h2, hA, hn => by
    simp only [TEs.rt_nil, TEs.rt_cons, List.append_nil, TEs.sp] at hA hn ⊢
    obtain ⟨n1, q1, q2⟩ := TE.cut (t := t) e x h1 (i + e.rd.length) n i i hA (Nat.le_refl _) hn
    rw [q2]
    cases n1 with
    | zero => rfl
    | succ n1 => unfold spF; rw [if_pos (Nat.le_refl _)]
  | .cons e2 es, e, x, n, i, h1, h2, hA, hn => by
    simp only [TEs.ok_nil, TEs.ok_cons] at h2
    simp only [TEs.rt_nil, TEs.rt_cons, List.length_append, List.length_cons, TEs.sp] at hA hn ⊢
    have hA2 := hA.right
    have hb : bt t ((i + e.rd.length : Nat) : Int) = 44 := hA2.head
    obtain ⟨n1, q1, q2⟩ := TE.cut (t := t) e x h1 (i + (e.rd.length + (e2.rd.length + (TEs.rt es).length + 1))) n i i hA.left (by omega) (by omega)
    have ih := TEs.spF_ es e2 x (n1 - 1) (i + e.rd.length + 1) h2.1 h2.2 hA2.tail (by simp only [List.length_append]; omega)
    obtain ⟨n2, hn2⟩ : ∃ n2, n1 = n2 + 1 := ⟨n1 - 1, by omega⟩
    subst hn2
    rw [q2]
    conv => lhs; unfold spF
    rw [if_neg (by omega), if_neg (by rw [hb]; decide), if_pos hb]
    simp only [List.length_append, Nat.add_sub_cancel] at ih
    rw [show i + (e.rd.length + (e2.rd.length + (TEs.rt es).length + 1)) = i + e.rd.length + 1 + (e2.rd.length + (TEs.rt es).length) by omega, ih]
/-- the spans of a bracket's elements -/
theorem elS_brk {o c : Int} {es : TEs} {i x : Nat} (ho : cO o = true) (hc : cX c = true) (h : (TEs.ok s es) x) (hA : At t i (o :: ((TEs.rd es) ++ [c]))) : elS t i = (TEs.sp es) (i + 1) := by
  have hm := mt_brk ho hc (TEs.balr (t := t) es x h) hA
  unfold elS
  rw [hm]
  cases es with
  | nil => simp [TEs.rd_nil, TEs.rd_cons, TEs.sp]
  | cons e es =>
    simp only [TEs.ok_nil, TEs.ok_cons] at h
    have hrd : (TEs.rd (e :: es)) = e.rd ++ (TEs.rt es) := by simp only [TEs.rd_nil, TEs.rd_cons]
    have hpos := TE.rd_pos e
    have hl : (e.rd ++ (TEs.rt es)).length = e.rd.length + (TEs.rt es).length := by simp
    rw [hrd] at hA
    rw [if_pos (by rw [hrd]; omega), hrd]
    simp only [TEs.sp]
    have hcl : bt t ((i + 1 + (e.rd ++ (TEs.rt es)).length : Nat) : Int) = c := hA.tail.right.head
    have hlt := bt_lt (s := t) (p := i + 1 + (e.rd ++ (TEs.rt es)).length) (by rw [hcl]; intro h0; rw [h0] at hc; exact absurd hc (by decide))
    exact TEs.spF_ es e x t.size (i + 1) h.1 h.2 hA.tail.left (by omega)
end
end Go.Proofs.Ytnfaiaoipeholaa
/- Texts of trees: the steps. No Go here. -/
namespace Go.Proofs.Ytnfaiaoipeholaa
set_option linter.unusedSimpArgs false
set_option linter.unusedVariables false
section
variable {s t : ByteArray}
theorem seg_At : ∀ {L : List Int} {i : Nat}, At t i L → seg t i (i + L.length) = L
  | [], i, _ => by simp [seg_self]
  | x :: L, i, h => by
    have ih := seg_At h.tail
    rw [seg_app (j := i + 1) (by omega) (by simp), seg_one, h.head, show i + (x :: L).length = i + 1 + L.length by simp; omega, ih]; rfl
/-- what stands behind -/
theorem seg_rest {L : List Int} {i : Nat} (h : At t i L) (hz : i + L.length ≤ t.size) : seg t i t.size = L ++ seg t (i + L.length) t.size := by
  rw [seg_app (j := i + L.length) (by omega) hz, seg_At h]
theorem seg_front {L : List Int} {i : Nat} (h : At t i L) : seg t 0 (i + L.length) = seg t 0 i ++ L := by
  rw [seg_app (j := i) (by omega) (by omega), seg_At h]
/-- elements with commas between -/
def jnS (t : ByteArray) : List (Nat × Nat) → List Int
  | [] => []
  | [p] => seg t p.1 p.2
  | p :: q :: r => seg t p.1 p.2 ++ (44 :: jnS t (q :: r))
/-- the list that opens here without an element -/
def woS (t : ByteArray) (i k : Nat) : List Int := seg t 0 (i + 1) ++ (jnS t ((elS t i).eraseIdx k) ++ seg t (mt t i) t.size)
/-- places of a name -/
def nmS (t : ByteArray) (c : Int) (i n : Nat) : List Nat := (List.range' i n).filter fun j => decide (bt t (j : Nat) = c)
/-- the name here, replaced by each of the same name within -/
def wnS (t : ByteArray) (i : Nat) : List (List Int) := (nmS t (bt t i) (i + 2) (mt t (i + 1) - (i + 2))).map fun j => seg t 0 i ++ (seg t j (mt t (j + 1) + 1) ++ seg t (mt t (i + 1) + 1) t.size)
/-- the steps at a place -/
def stS (t : ByteArray) (i : Nat) : List (List Int) :=
  if cN (bt t i) = true then wnS t i
  else if bt t i = 91 ∧ (elS t i).length = 1 then [woS t i 0]
  else if bt t i = 123 ∨ (bt t i = 60 ∧ 1 < (elS t i).length) then (List.range (elS t i).length).map (woS t i)
  else []
def rgS (t : ByteArray) (i n : Nat) : List (List Int) := (List.range' i n).flatMap (stS t)
theorem rgS_add (t : ByteArray) (i n m : Nat) : rgS t i (n + m) = rgS t i n ++ rgS t (i + n) m := by
  unfold rgS
  rw [← List.range'_append_1, List.flatMap_append]
theorem rgS_one (t : ByteArray) (i : Nat) : rgS t i 1 = stS t i := by simp [rgS]
theorem nmS_add (t : ByteArray) (c : Int) (i n m : Nat) : nmS t c i (n + m) = nmS t c i n ++ nmS t c (i + n) m := by
  unfold nmS
  rw [← List.range'_append_1, List.filter_append]
theorem nmS_one (t : ByteArray) (c : Int) (i : Nat) : nmS t c i 1 = if bt t i = c then [i] else [] := by
  unfold nmS
  simp only [List.range'_one]
  by_cases h : bt t i = c
  · rw [if_pos h, List.filter_cons_of_pos (by simpa using h)]; rfl
  · rw [if_neg h, List.filter_cons_of_neg (by simpa using h)]; rfl
/-- no step here -/
theorem stS_no {i : Nat} (h1 : cN (bt t i) = false) (h2 : bt t i ≠ 91) (h3 : bt t i ≠ 123) (h4 : bt t i ≠ 60) : stS t i = [] := by
  unfold stS
  rw [if_neg (by simp [h1]), if_neg (fun h => h2 h.1), if_neg (fun h => by rcases h with h | h; exact h3 h; exact h4 h.1)]
theorem dig_no {d : Nat} (h : d ≤ 9) : cN (48 + (d : Int)) = false ∧ (48 + (d : Int)) ≠ 91 ∧ (48 + (d : Int)) ≠ 123 ∧ (d ≤ 9) := ⟨by simp [cN]; omega, by omega, by omega, h⟩
theorem let_nn {c : Int} (h : cL c = true) : cN c = false ∧ c ≠ 91 ∧ c ≠ 123 ∧ c ≠ 60 := by
  have hv : 97 ≤ c ∧ c ≤ 122 := by simpa [cL] using h
  exact ⟨by simp [cN]; omega, by omega, by omega, by omega⟩
theorem cls_no {c : Int} (h : cX c = true) : cN c = false ∧ c ≠ 91 ∧ c ≠ 123 ∧ c ≠ 60 := by
  rcases cX_vals h with rfl | rfl | rfl | rfl <;> decide
/-- the names of a kind in a text, with their brackets -/
def inS (t : ByteArray) (c : Int) (i n : Nat) : List (List Int) := (nmS t c i n).map fun j => seg t j (mt t (j + 1) + 1)
theorem inS_add (t : ByteArray) (c : Int) (i n m : Nat) : inS t c i (n + m) = inS t c i n ++ inS t c (i + n) m := by
  unfold inS; rw [nmS_add, List.map_append]
theorem inS_skip {c : Int} {i : Nat} (h : bt t i ≠ c) : inS t c i 1 = [] := by
  unfold inS; rw [nmS_one, if_neg h]; rfl
theorem mt_nm {c : Int} {e : (TE TF)} {i x : Nat} (h : e.ok s x) (hA : At t i (c :: 40 :: (e.rd ++ [41]))) : mt t (i + 1) = i + 2 + e.rd.length := by
  rw [mt_brk (by decide) (by decide) (TE.bal (t := t) e x h) hA.tail]
theorem inS__all {c : Int} (hc : cN c = true) : (∀ z, (fun (e : (TE TF)) => ∀ (x i : Nat), e.ok s x → At t i e.rd → inS t c i e.rd.length = (e.inn c).map TF.rd) z) ∧ (∀ z, (fun (fs : TFs) => ∀ (l : List Nat) (i : Nat), (TFs.ok s fs) l → At t i (TFs.rd fs) → inS t c i (TFs.rd fs).length = ((TFs.inn c fs)).map TF.rd) z) ∧ (∀ z, (fun (f : TF) => ∀ (p i : Nat), f.ok s p → At t i f.rd → inS t c i f.rd.length = (f.inn c).map TF.rd) z) ∧ (∀ z, (fun (es : TEs) => ∀ (x i : Nat), (TEs.ok s es) x → At t i (TEs.rt es) → inS t c i (TEs.rt es).length = ((TEs.inn c es)).map TF.rd) z) := by
  refine tree_ind ?_ ?_ ?_ ?_ ?_ ?_ ?_ ?_
  · intro d fs ihfs x i h hA
    simp only [TE.ok_mk] at h
    obtain ⟨hd, a, _, h2⟩ := h
    simp only [TE.rd_mk, TE.inn_mk, List.length_cons] at hA ⊢
    have hv : 65 ≤ c ∧ c ≤ 90 := by simpa [cN] using hc
    rw [Nat.add_comm, inS_add, inS_skip (by rw [hA.head]; omega), ihfs _ (i + 1) h2 hA.tail]; rfl
  · intro l i h hA
    simp [TFs.rd_nil, TFs.rd_cons, TFs.inn_nil, TFs.inn_cons, inS, nmS]
  · intro f fs ihf ihfs l i h hA
    simp only [TFs.ok_nil, TFs.ok_cons] at h
    obtain ⟨p, q, _, h1, h2⟩ := h
    simp only [TFs.rd_nil, TFs.rd_cons, TFs.inn_nil, TFs.inn_cons, List.length_append, List.map_append] at hA ⊢
    rw [inS_add, ihf p i h1 hA.left, ihfs q _ h2 hA.right]
  · intro c' p i h hA
    simp only [TF.ok_lt, TF.ok_nm, TF.ok_br] at h
    obtain ⟨h1, h2⟩ := h
    simp only [TF.rd_lt, TF.rd_nm, TF.rd_br, TF.inn_lt, TF.inn_nm, TF.inn_br] at hA ⊢
    have hv : 65 ≤ c ∧ c ≤ 90 := by simpa [cN] using hc
    have hw : 97 ≤ bt s p ∧ bt s p ≤ 122 := by simpa [cL] using h1
    exact inS_skip (by rw [hA.head]; omega)
  · intro c' e ihe p i h hA
    simp only [TF.ok_lt, TF.ok_nm, TF.ok_br] at h
    obtain ⟨h1, h2, h3⟩ := h
    have hm := mt_nm h3 (by simpa only [TF.rd_lt, TF.rd_nm, TF.rd_br] using hA)
    have hsg := seg_At hA
    simp only [TF.rd_lt, TF.rd_nm, TF.rd_br, TF.inn_lt, TF.inn_nm, TF.inn_br, List.map_append] at hA ⊢
    have hv : 65 ≤ c ∧ c ≤ 90 := by simpa [cN] using hc
    have hl : (c' :: 40 :: (e.rd ++ [41])).length = 1 + (1 + (e.rd.length + 1)) := by simp; omega
    have h41 : bt t ((i + 1 + 1 + e.rd.length : Nat) : Int) = 41 := hA.tail.tail.right.head
    rw [hl, inS_add, inS_add, inS_add, inS_skip (i := i + 1) (by rw [hA.tail.head]; omega), ihe _ (i + 1 + 1) h3 hA.tail.tail.left, inS_skip (i := i + 1 + 1 + e.rd.length) (by rw [h41]; omega)]
    have hfst : inS t c i 1 = ((if c' = c then [TF.nm c' e] else []) : List TF).map TF.rd := by
      unfold inS
      rw [nmS_one, hA.head]
      by_cases hcc : c' = c
      · rw [if_pos hcc, if_pos hcc]
        simp only [List.map_cons, List.map_nil]
        rw [hm]
        simp only [TF.rd_lt, TF.rd_nm, TF.rd_br] at hsg
        rw [show i + 2 + e.rd.length + 1 = i + (c' :: 40 :: (e.rd ++ [41])).length by rw [hl]; omega, hsg]
        simp only [TF.rd_lt, TF.rd_nm, TF.rd_br]
      · rw [if_neg hcc, if_neg hcc]; rfl
    rw [hfst]; simp
  · intro o es _ ihb p i h hA
    simp only [TF.ok_lt, TF.ok_nm, TF.ok_br] at h
    obtain ⟨h1, h2, _, h3⟩ := h
    have hc0 : cC o ≠ 0 := by rw [h2]; simpa [cO] using h1
    simp only [TF.rd_lt, TF.rd_nm, TF.rd_br, TF.inn_lt, TF.inn_nm, TF.inn_br] at hA ⊢
    have hv : 65 ≤ c ∧ c ≤ 90 := by simpa [cN] using hc
    have hov := cO_vals h1
    have hcv := cC_vals o
    have hl : (o :: ((TEs.rd es) ++ [cC o])).length = 1 + ((TEs.rd es).length + 1) := by simp; omega
    have hcl : bt t ((i + 1 + (TEs.rd es).length : Nat) : Int) = cC o := hA.tail.right.head
    have hes : inS t c (i + 1) (TEs.rd es).length = ((TEs.inn c es)).map TF.rd := by
      have hA2 := hA.tail.left
      cases es with
      | nil => simp [TEs.rd_nil, TEs.rd_cons, TEs.inn_nil, TEs.inn_cons, inS, nmS]
      | cons e es =>
        simp only [TEs.ok_nil, TEs.ok_cons] at h3
        simp only [TEs.rd_nil, TEs.rd_cons, TEs.inn_nil, TEs.inn_cons, List.length_append, List.map_append] at hA2 ⊢
        rw [inS_add, (ihb _ _ rfl).1 _ _ h3.1 hA2.left, (ihb _ _ rfl).2 _ _ h3.2 hA2.right]
    rw [hl, inS_add, inS_add, inS_skip (by rw [hA.head]; omega), hes, inS_skip (by rw [hcl]; omega)]; simp
  · intro x i h hA
    simp [TEs.rt_nil, TEs.rt_cons, TEs.inn_nil, TEs.inn_cons, inS, nmS]
  · intro e es ihe ihes x i h hA
    simp only [TEs.ok_nil, TEs.ok_cons] at h
    simp only [TEs.rt_nil, TEs.rt_cons, TEs.inn_nil, TEs.inn_cons, List.length_cons, List.length_append, List.map_append] at hA ⊢
    have hv : 65 ≤ c ∧ c ≤ 90 := by simpa [cN] using hc
    rw [show e.rd.length + (TEs.rt es).length + 1 = 1 + (e.rd.length + (TEs.rt es).length) by omega, inS_add, inS_add, inS_skip (by rw [hA.head]; omega), ihe _ _ h.1 hA.tail.left, ihes _ _ h.2 hA.tail.right]; rfl
theorem TE.inS_ {c : Int} (hc : cN c = true) : ∀ (e : (TE TF)) (x i : Nat), e.ok s x → At t i e.rd → inS t c i e.rd.length = (e.inn c).map TF.rd := (inS__all hc).1
theorem TFs.inS_ {c : Int} (hc : cN c = true) : ∀ (fs : TFs) (l : List Nat) (i : Nat), (TFs.ok s fs) l → At t i (TFs.rd fs) → inS t c i (TFs.rd fs).length = ((TFs.inn c fs)).map TF.rd := (inS__all hc).2.1
theorem TF.inS_ {c : Int} (hc : cN c = true) : ∀ (f : TF) (p i : Nat), f.ok s p → At t i f.rd → inS t c i f.rd.length = (f.inn c).map TF.rd := (inS__all hc).2.2.1
theorem TEs.inS_ {c : Int} (hc : cN c = true) : ∀ (es : TEs) (x i : Nat), (TEs.ok s es) x → At t i (TEs.rt es) → inS t c i (TEs.rt es).length = ((TEs.inn c es)).map TF.rd := (inS__all hc).2.2.2
end
end Go.Proofs.Ytnfaiaoipeholaa
/- Texts of trees: the steps of the text are those of the tree. No Go here. -/
namespace Go.Proofs.Ytnfaiaoipeholaa
set_option linter.unusedSimpArgs false
set_option linter.unusedVariables false
section
variable {s t : ByteArray}
/-- a text with a piece in it -/
def pcS (t : ByteArray) (i j : Nat) (L : List Int) : List Int := seg t 0 i ++ (L ++ seg t j t.size)
/-- elements' spans, joined -/
theorem jnS_rt : ∀ (es : TEs) (e : (TE TF)) (i : Nat), At t i (e.rd ++ (TEs.rt es)) → jnS t ((TEs.sp (e :: es)) i) = e.rd ++ (TEs.rt es)
  | .nil, e, i, hA => by
    simp only [TEs.rt_nil, TEs.rt_cons, List.append_nil] at hA
    simp only [TEs.sp, jnS, TEs.rt_nil, TEs.rt_cons, List.append_nil]
    exact seg_At hA
  | .cons e2 es, e, i, hA => by
    simp only [TEs.rt_nil, TEs.rt_cons] at hA
    have ih := jnS_rt es e2 (i + e.rd.length + 1) hA.right.tail
    simp only [TEs.sp] at ih ⊢
    simp only [jnS, TEs.rt_nil, TEs.rt_cons]
    rw [seg_At hA.left, ih]
theorem jnS_rd (es : TEs) (i : Nat) (hA : At t i (TEs.rd es)) : jnS t ((TEs.sp es) i) = (TEs.rd es) := by
  cases es with
  | nil => simp [TEs.sp, jnS, TEs.rd_nil, TEs.rd_cons]
  | cons e es =>
    simp only [TEs.rd_nil, TEs.rd_cons] at hA ⊢
    exact jnS_rt es e i hA
theorem sp_len : ∀ (es : TEs) (i : Nat), ((TEs.sp es) i).length = (TEs.len es)
  | .nil, i => by simp [TEs.sp, TEs.len]
  | .cons e es, i => by simp [TEs.sp, TEs.len, sp_len es]
/-- with commas ahead -/
def jtS (t : ByteArray) : List (Nat × Nat) → List Int
  | [] => []
  | p :: r => 44 :: (seg t p.1 p.2 ++ jtS t r)
theorem jnS_cons (p : Nat × Nat) : ∀ r, jnS t (p :: r) = seg t p.1 p.2 ++ jtS t r
  | [] => by simp [jnS, jtS]
  | q :: r => by simp only [jnS, jtS]; rw [jnS_cons q r]
theorem jtS_all : ∀ (es : TEs) (i : Nat), At t i (TEs.rt es) → jtS t ((TEs.sp es) (i + 1)) = (TEs.rt es)
  | .nil, i, hA => by simp [TEs.sp, TEs.rt_nil, TEs.rt_cons, jtS]
  | .cons e es, i, hA => by
    simp only [TEs.rt_nil, TEs.rt_cons] at hA
    have ih := jtS_all es (i + 1 + e.rd.length) hA.tail.right
    simp only [TEs.sp, TEs.rt_nil, TEs.rt_cons, jtS]
    rw [seg_At hA.tail.left, ih]
theorem jtS_del : ∀ (es : TEs) (i k : Nat), At t i (TEs.rt es) → jtS t (((TEs.sp es) (i + 1)).eraseIdx k) = (TEs.rt (TEs.del es k))
  | .nil, i, k, hA => by simp [TEs.sp, TEs.del, TEs.rt_nil, TEs.rt_cons, jtS]
  | .cons e es, i, 0, hA => by
    simp only [TEs.rt_nil, TEs.rt_cons] at hA
    have h0 : jtS t ((TEs.sp es) (i + 1 + e.rd.length + 1)) = (TEs.rt es) := by
      have := jtS_all es (i + 1 + e.rd.length) hA.tail.right
      exact this
    simp only [TEs.sp, List.eraseIdx_cons_zero, TEs.del]
    exact h0
  | .cons e es, i, k + 1, hA => by
    simp only [TEs.rt_nil, TEs.rt_cons] at hA
    have ih := jtS_del es (i + 1 + e.rd.length) k hA.tail.right
    simp only [TEs.sp, List.eraseIdx_cons_succ, TEs.del, TEs.rt_nil, TEs.rt_cons, jtS]
    rw [seg_At hA.tail.left, ih]
theorem jnS_del (es : TEs) (i k : Nat) (hA : At t i (TEs.rd es)) : jnS t (((TEs.sp es) i).eraseIdx k) = (TEs.rd (TEs.del es k)) := by
  cases es with
  | nil => simp [TEs.sp, TEs.del, TEs.rd_nil, TEs.rd_cons, jnS]
  | cons e es =>
    simp only [TEs.rd_nil, TEs.rd_cons] at hA
    cases k with
    | zero =>
      simp only [TEs.sp, List.eraseIdx_cons_zero, TEs.del]
      cases es with
      | nil => simp [TEs.sp, TEs.rd_nil, TEs.rd_cons, jnS]
      | cons e2 es =>
        simp only [TEs.rt_nil, TEs.rt_cons] at hA
        exact jnS_rd _ _ (by simp only [TEs.rd_nil, TEs.rd_cons]; exact hA.right.tail)
    | succ k =>
      simp only [TEs.sp, List.eraseIdx_cons_succ, TEs.del, TEs.rd_nil, TEs.rd_cons]
      rw [jnS_cons, seg_At hA.left, jtS_del es (i + e.rd.length) k hA.right]
/-- a bracket's own steps -/
theorem woS_brk {o c : Int} {es : TEs} {i k x : Nat} (ho : cO o = true) (hc : cX c = true) (h : (TEs.ok s es) x) (hA : At t i (o :: ((TEs.rd es) ++ [c]))) (hz : i + (o :: ((TEs.rd es) ++ [c])).length ≤ t.size) :
    woS t i k = pcS t i (i + (o :: ((TEs.rd es) ++ [c])).length) (o :: ((TEs.rd (TEs.del es k)) ++ [c])) := by
  have hm := mt_brk ho hc (TEs.balr (t := t) es x h) hA
  have hcl : At t (i + 1 + (TEs.rd es).length) [c] := hA.tail.right
  have hl : (o :: ((TEs.rd es) ++ [c])).length = (TEs.rd es).length + 2 := by simp
  unfold woS pcS
  rw [elS_brk ho hc h hA, jnS_del es (i + 1) k hA.tail.left, hm, seg_rest hcl (by simp; omega)]
  have h1 : seg t 0 (i + 1) = seg t 0 i ++ [o] := by
    have hh : At t i [o] := At.cons hA.head (At.nil _)
    have := seg_front hh
    simpa using this
  rw [h1, show i + 1 + (TEs.rd es).length + [c].length = i + (o :: ((TEs.rd es) ++ [c])).length by simp; omega]
  simp
theorem pc_left {A B C : List Int} {i : Nat} (hA : At t i (A ++ B)) (hz : i + (A ++ B).length ≤ t.size) : pcS t i (i + A.length) C = pcS t i (i + (A ++ B).length) (C ++ B) := by
  unfold pcS
  rw [seg_rest hA.right (by simp at hz; omega), show i + A.length + B.length = i + (A ++ B).length by simp; omega]
  simp
theorem pc_right {A C : List Int} {i j : Nat} (hA : At t i A) : pcS t (i + A.length) j C = pcS t i j (A ++ C) := by
  unfold pcS
  rw [seg_front hA]; simp
theorem stS__all : (∀ z, (fun (e : (TE TF)) => ∀ (x i : Nat), e.ok s x → At t i e.rd → i + e.rd.length ≤ t.size → rgS t i e.rd.length = e.st.map fun e' => pcS t i (i + e.rd.length) e'.rd) z) ∧ (∀ z, (fun (fs : TFs) => ∀ (l : List Nat) (i : Nat), (TFs.ok s fs) l → At t i (TFs.rd fs) → i + (TFs.rd fs).length ≤ t.size → rgS t i (TFs.rd fs).length = (TFs.st fs).map fun fs' => pcS t i (i + (TFs.rd fs).length) (TFs.rd fs')) z) ∧ (∀ z, (fun (f : TF) => ∀ (p i : Nat), f.ok s p → At t i f.rd → i + f.rd.length ≤ t.size → rgS t i f.rd.length = f.st.map fun f' => pcS t i (i + f.rd.length) f'.rd) z) ∧ (∀ z, (fun (es : TEs) => ∀ (x i : Nat), (TEs.ok s es) x → At t i (TEs.rt es) → i + (TEs.rt es).length ≤ t.size → rgS t i (TEs.rt es).length = (TEs.st es).map fun es' => pcS t i (i + (TEs.rt es).length) (TEs.rt es')) z) := by
  refine tree_ind ?_ ?_ ?_ ?_ ?_ ?_ ?_ ?_
  · intro d fs ihfs x i h hA hz
    simp only [TE.ok_mk] at h
    obtain ⟨hd, a, _, h2⟩ := h
    simp only [TE.rd_mk, TE.st_mk, List.length_cons, List.map_map] at hA hz ⊢
    have hno := dig_no hd
    rw [show (TFs.rd fs).length + 1 = 1 + (TFs.rd fs).length by omega, rgS_add, rgS_one, stS_no (by rw [hA.head]; exact hno.1) (by rw [hA.head]; exact hno.2.1) (by rw [hA.head]; exact hno.2.2.1) (by rw [hA.head]; omega), ihfs _ (i + 1) h2 hA.tail (by omega), List.nil_append]
    refine List.map_congr_left (fun fs' _ => ?_)
    simp only [Function.comp, TE.rd_mk]
    have := pc_right (t := t) (j := i + 1 + (TFs.rd fs).length) (C := (TFs.rd fs')) (A := [48 + (d : Int)]) (At.cons hA.head (At.nil _))
    simp only [List.length_cons, List.length_nil, Nat.zero_add, List.cons_append, List.nil_append] at this
    rw [this]; congr 1; omega
  · intro l i h hA hz
    simp [TFs.rd_nil, TFs.rd_cons, TFs.st_nil, TFs.st_cons, rgS]
  · intro f fs ihf ihfs l i h hA hz
    simp only [TFs.ok_nil, TFs.ok_cons] at h
    obtain ⟨p, q, _, h1, h2⟩ := h
    simp only [TFs.rd_nil, TFs.rd_cons] at hA hz
    have hz' : i + (f.rd.length + (TFs.rd fs).length) ≤ t.size := by simpa using hz
    simp only [TFs.rd_nil, TFs.rd_cons, TFs.st_nil, TFs.st_cons, List.length_append, List.map_append, List.map_map]
    rw [rgS_add, ihf p i h1 hA.left (by omega), ihfs q (i + f.rd.length) h2 hA.right (by omega)]
    congr 1
    · refine List.map_congr_left (fun f' _ => ?_)
      simp only [Function.comp, TFs.rd_nil, TFs.rd_cons]
      rw [pc_left hA hz]; simp
    · refine List.map_congr_left (fun fs' _ => ?_)
      simp only [Function.comp, TFs.rd_nil, TFs.rd_cons]
      rw [pc_right hA.left]; congr 1; omega
  · intro c p i h hA hz
    simp only [TF.ok_lt, TF.ok_nm, TF.ok_br] at h
    obtain ⟨h1, h2⟩ := h
    simp only [TF.rd_lt, TF.rd_nm, TF.rd_br, TF.st_lt, TF.st_nm, TF.st_br] at hA hz ⊢
    have hno := let_nn (c := c) (by rw [h2]; exact h1)
    have hb := hA.head
    show rgS t i 1 = _
    rw [rgS_one, stS_no (by rw [hb]; exact hno.1) (by rw [hb]; exact hno.2.1) (by rw [hb]; exact hno.2.2.1) (by rw [hb]; exact hno.2.2.2)]; rfl
  · intro c e ihe p i h hA hz
    simp only [TF.ok_lt, TF.ok_nm, TF.ok_br] at h
    obtain ⟨h1, h2, h3⟩ := h
    have hcN : cN c = true := by rw [h2]; exact h1
    simp only [TF.rd_lt, TF.rd_nm, TF.rd_br] at hA hz
    have hm := mt_nm h3 hA
    have hl : (c :: 40 :: (e.rd ++ [41])).length = 1 + (1 + (e.rd.length + 1)) := by simp; omega
    have h41 : bt t ((i + 1 + 1 + e.rd.length : Nat) : Int) = 41 := hA.tail.tail.right.head
    have h40 : bt t ((i + 1 : Nat) : Int) = 40 := hA.tail.head
    have hb := hA.head
    simp only [TF.rd_lt, TF.rd_nm, TF.rd_br, TF.st_lt, TF.st_nm, TF.st_br, List.map_append, List.map_map]
    rw [hl] at hz ⊢
    rw [rgS_add, rgS_add, rgS_add, rgS_one, rgS_one, rgS_one, stS_no (i := i + 1) (by rw [h40]; decide) (by rw [h40]; decide) (by rw [h40]; decide) (by rw [h40]; decide), stS_no (i := i + 1 + 1 + e.rd.length) (by rw [h41]; decide) (by rw [h41]; decide) (by rw [h41]; decide) (by rw [h41]; decide), ihe _ (i + 1 + 1) h3 hA.tail.tail.left (by omega)]
    simp only [List.nil_append, List.append_nil]
    congr 1
    · unfold stS
      rw [if_pos (by rw [hb]; exact hcN)]
      unfold wnS
      rw [hb, hm, show i + 2 + e.rd.length - (i + 2) = e.rd.length by omega]
      have hin := TE.inS_ (t := t) hcN e _ (i + 2) h3 hA.tail.tail.left
      unfold inS at hin
      have : (nmS t c (i + 2) e.rd.length).map (fun j => seg t 0 i ++ (seg t j (mt t (j + 1) + 1) ++ seg t (i + 2 + e.rd.length + 1) t.size)) = ((nmS t c (i + 2) e.rd.length).map fun j => seg t j (mt t (j + 1) + 1)).map fun L => pcS t i (i + (1 + (1 + (e.rd.length + 1)))) L := by
        rw [List.map_map]
        refine List.map_congr_left (fun j _ => ?_)
        simp only [Function.comp, pcS]
        rw [show i + 2 + e.rd.length + 1 = i + (1 + (1 + (e.rd.length + 1))) by omega]
      rw [this, hin, List.map_map]; rfl
    · refine List.map_congr_left (fun e' _ => ?_)
      simp only [Function.comp, TF.rd_lt, TF.rd_nm, TF.rd_br]
      have hA3 : At t (i + 1 + 1) (e.rd ++ [41]) := hA.tail.tail
      rw [pc_left hA3 (by simp; omega)]
      have := pc_right (t := t) (j := i + 1 + 1 + (e.rd ++ [41]).length) (C := e'.rd ++ [41]) (A := [c, 40]) (At.cons hb (At.cons h40 (At.nil _)))
      simp only [List.length_cons, List.length_nil, Nat.zero_add, List.cons_append, List.nil_append] at this
      rw [show i + (1 + 1) = i + 1 + 1 by omega] at this
      rw [this]; congr 1; simp; omega
  · intro o es _ ihb p i h hA hz
    simp only [TF.ok_lt, TF.ok_nm, TF.ok_br] at h
    obtain ⟨h1, h2, h5, h3⟩ := h
    have ho : cO o = true := by rw [h2]; exact h1
    have hc0 : cC o ≠ 0 := by simpa [cO] using ho
    have hcx := cX_cC _ hc0
    simp only [TF.rd_lt, TF.rd_nm, TF.rd_br] at hA hz
    have hl : (o :: ((TEs.rd es) ++ [cC o])).length = 1 + ((TEs.rd es).length + 1) := by simp; omega
    have hcl : bt t ((i + 1 + (TEs.rd es).length : Nat) : Int) = cC o := hA.tail.right.head
    have hb := hA.head
    have hcn := cls_no hcx
    have hov := cO_vals ho
    have hown : stS t i = (List.range (ownN o (TEs.len es))).map fun k => pcS t i (i + (o :: ((TEs.rd es) ++ [cC o])).length) (o :: ((TEs.rd (TEs.del es k)) ++ [cC o])) := by
      have hlen : (elS t i).length = (TEs.len es) := by rw [elS_brk ho hcx h3 hA, sp_len]
      have hw : ∀ k, woS t i k = pcS t i (i + (o :: ((TEs.rd es) ++ [cC o])).length) (o :: ((TEs.rd (TEs.del es k)) ++ [cC o])) := fun k => woS_brk ho hcx h3 hA hz
      unfold stS ownN
      rw [hb, hlen, if_neg (by rcases hov with h | h | h | h <;> rw [h] <;> decide)]
      by_cases q1 : o = 91
      · rw [if_pos q1]
        by_cases q2 : (TEs.len es) = 1
        · rw [if_pos ⟨q1, q2⟩, if_pos q2]
          simp [hw]
        · rw [if_neg (fun h => q2 h.2), if_neg (fun h => by rcases h with h | h; omega; omega), if_neg q2]; rfl
      · rw [if_neg (fun h => q1 h.1), if_neg q1]
        by_cases q2 : o = 123
        · rw [if_pos (.inl q2), if_pos q2]
          exact List.map_congr_left (fun k _ => hw k)
        · rw [if_neg q2]
          by_cases q3 : o = 60
          · rw [if_pos q3]
            by_cases q4 : 1 < (TEs.len es)
            · rw [if_pos (.inr ⟨q3, q4⟩), if_pos q4]
              exact List.map_congr_left (fun k _ => hw k)
            · rw [if_neg (fun h => by rcases h with h | h; exact q2 h; exact q4 h.2), if_neg q4]; rfl
          · rw [if_neg (fun h => by rcases h with h | h; exact q2 h; exact q3 h.1), if_neg q3]; rfl
    have hes : rgS t (i + 1) (TEs.rd es).length = (TEs.st es).map fun es' => pcS t (i + 1) (i + 1 + (TEs.rd es).length) (TEs.rd es') := by
      have hA2 := hA.tail.left
      cases es with
      | nil => simp [TEs.rd_nil, TEs.rd_cons, TEs.st_nil, TEs.st_cons, rgS]
      | cons e es =>
        simp only [TEs.ok_nil, TEs.ok_cons] at h3
        have hz2 : i + 1 + (e.rd ++ (TEs.rt es)).length ≤ t.size := by rw [hl] at hz; simp only [TEs.rd_nil, TEs.rd_cons] at hz; omega
        simp only [TEs.rd_nil, TEs.rd_cons] at hA2
        simp only [TEs.rd_nil, TEs.rd_cons, TEs.st_nil, TEs.st_cons, List.map_append, List.map_map]
        have hz3 : i + 1 + (e.rd.length + (TEs.rt es).length) ≤ t.size := by simpa using hz2
        rw [List.length_append, rgS_add, (ihb _ _ rfl).1 _ (i + 1) h3.1 hA2.left (by omega), (ihb _ _ rfl).2 _ (i + 1 + e.rd.length) h3.2 hA2.right (by omega)]
        congr 1
        · refine List.map_congr_left (fun e' _ => ?_)
          simp only [Function.comp, TEs.rd_nil, TEs.rd_cons]
          rw [pc_left hA2 hz2]; simp
        · refine List.map_congr_left (fun es' _ => ?_)
          simp only [Function.comp, TEs.rd_nil, TEs.rd_cons]
          rw [pc_right hA2.left]; congr 1; omega
    simp only [TF.rd_lt, TF.rd_nm, TF.rd_br, TF.st_lt, TF.st_nm, TF.st_br, List.map_append, List.map_map]
    rw [hl] at hz ⊢
    rw [rgS_add, rgS_add, rgS_one, rgS_one, hown, hes, stS_no (i := i + 1 + (TEs.rd es).length) (by rw [hcl]; exact hcn.1) (by rw [hcl]; exact hcn.2.1) (by rw [hcl]; exact hcn.2.2.1) (by rw [hcl]; exact hcn.2.2.2), List.append_nil]
    congr 1
    · refine List.map_congr_left (fun k _ => ?_)
      simp only [Function.comp, TF.rd_lt, TF.rd_nm, TF.rd_br]
      rw [hl]
    · refine List.map_congr_left (fun es' _ => ?_)
      simp only [Function.comp, TF.rd_lt, TF.rd_nm, TF.rd_br]
      have hA3 : At t (i + 1) ((TEs.rd es) ++ [cC o]) := hA.tail
      rw [pc_left hA3 (by simp; omega)]
      have := pc_right (t := t) (j := i + 1 + ((TEs.rd es) ++ [cC o]).length) (C := (TEs.rd es') ++ [cC o]) (A := [o]) (At.cons hb (At.nil _))
      simp only [List.length_cons, List.length_nil, Nat.zero_add, List.cons_append, List.nil_append] at this
      rw [this]; congr 1; simp; omega
  · intro x i h hA hz
    simp [TEs.rt_nil, TEs.rt_cons, TEs.st_nil, TEs.st_cons, rgS]
  · intro e es ihe ihes x i h hA hz
    simp only [TEs.ok_nil, TEs.ok_cons] at h
    simp only [TEs.rt_nil, TEs.rt_cons] at hA hz
    have hl : (44 :: (e.rd ++ (TEs.rt es))).length = 1 + (e.rd.length + (TEs.rt es).length) := by simp; omega
    have hb := hA.head
    have hA2 := hA.tail
    rw [hl] at hz
    have hz2 : i + 1 + (e.rd ++ (TEs.rt es)).length ≤ t.size := by simp; omega
    simp only [TEs.rt_nil, TEs.rt_cons, TEs.st_nil, TEs.st_cons, List.map_append, List.map_map]
    rw [hl, rgS_add, rgS_add, rgS_one, stS_no (by rw [hb]; decide) (by rw [hb]; decide) (by rw [hb]; decide) (by rw [hb]; decide), List.nil_append, ihe _ (i + 1) h.1 hA2.left (by omega), ihes _ (i + 1 + e.rd.length) h.2 hA2.right (by omega)]
    have hone : ∀ j C, pcS t (i + 1) j C = pcS t i j (44 :: C) := fun j C => by
      have := pc_right (t := t) (j := j) (C := C) (A := [44]) (At.cons hb (At.nil _))
      simpa using this
    congr 1
    · refine List.map_congr_left (fun e' _ => ?_)
      simp only [Function.comp, TEs.rt_nil, TEs.rt_cons]
      rw [pc_left hA2 hz2, hone]; congr 1; simp; omega
    · refine List.map_congr_left (fun es' _ => ?_)
      simp only [Function.comp, TEs.rt_nil, TEs.rt_cons]
      rw [pc_right hA2.left, hone]; congr 1; omega
theorem TE.stS_ : ∀ (e : (TE TF)) (x i : Nat), e.ok s x → At t i e.rd → i + e.rd.length ≤ t.size → rgS t i e.rd.length = e.st.map fun e' => pcS t i (i + e.rd.length) e'.rd := stS__all.1
theorem TFs.stS_ : ∀ (fs : TFs) (l : List Nat) (i : Nat), (TFs.ok s fs) l → At t i (TFs.rd fs) → i + (TFs.rd fs).length ≤ t.size → rgS t i (TFs.rd fs).length = (TFs.st fs).map fun fs' => pcS t i (i + (TFs.rd fs).length) (TFs.rd fs') := stS__all.2.1
theorem TF.stS_ : ∀ (f : TF) (p i : Nat), f.ok s p → At t i f.rd → i + f.rd.length ≤ t.size → rgS t i f.rd.length = f.st.map fun f' => pcS t i (i + f.rd.length) f'.rd := stS__all.2.2.1
theorem TEs.stS_ : ∀ (es : TEs) (x i : Nat), (TEs.ok s es) x → At t i (TEs.rt es) → i + (TEs.rt es).length ≤ t.size → rgS t i (TEs.rt es).length = (TEs.st es).map fun es' => pcS t i (i + (TEs.rt es).length) (TEs.rt es') := stS__all.2.2.2
/-- the steps of a tree's text -/
theorem stS_all {f : TF} (h : TreeOf s t f) : rgS t 0 t.size = f.st.map TF.rd := by
  have h1 := TF.stS_ f 0 0 h.ok h.at_ (by have := h.sz; omega)
  rw [← h.sz] at h1
  rw [h1]
  refine List.map_congr_left (fun f' _ => ?_)
  simp [pcS, seg_self]
end
end Go.Proofs.Ytnfaiaoipeholaa
/- Texts of trees: options, by their own brackets alone. No Go here. -/
namespace Go.Proofs.Ytnfaiaoipeholaa
set_option linter.unusedSimpArgs false
set_option linter.unusedVariables false
/-- how a byte turns the depth of options -/
def sqd (c d : Int) : Int := if c = 91 then d + 1 else if c = 93 then d - 1 else d
/-- behind the option, from a place and a depth on -/
def sqF (t : ByteArray) : Nat → Nat → Int → Nat
  | 0, j, _ => j
  | n + 1, j, d => if 0 < d then sqF t n (j + 1) (sqd (bt t j) d) else j
def sqK (t : ByteArray) (j : Nat) (d : Int) : Nat := sqF t (t.size - j) j d
/-- the place behind the option that opens here -/
def sq (t : ByteArray) (i : Nat) : Nat := sqK t (i + 1) 1
section
variable {s t : ByteArray}
theorem sqK_step {j : Nat} {d : Int} (h : j < t.size) (hd : 0 < d) : sqK t j d = sqK t (j + 1) (sqd (bt t j) d) := by
  unfold sqK
  rw [show t.size - j = (t.size - (j + 1)) + 1 by omega]
  show (if 0 < d then sqF t (t.size - (j + 1)) (j + 1) (sqd (bt t j) d) else j) = _
  rw [if_pos hd]
theorem sqK_zero {j : Nat} {d : Int} (hd : ¬ 0 < d) : sqK t j d = j := by
  unfold sqK
  cases t.size - j with
  | zero => rfl
  | succ n => unfold sqF; rw [if_neg hd]
/-- over these bytes the depth of options comes back -/
def BalS (t : ByteArray) (L : List Int) : Prop := ∀ i (d : Int), 1 ≤ d → At t i L → sqK t i d = sqK t (i + L.length) d
theorem BalS.nil : BalS t [] := fun _ _ _ _ => rfl
theorem BalS.plain {c : Int} {L : List Int} (h : c ≠ 0) (h1 : c ≠ 91) (h2 : c ≠ 93) (g : BalS t L) : BalS t (c :: L) := fun i d hd hA => by
  have hb := hA.head
  rw [sqK_step (bt_lt (by rw [hb]; exact h)) (by omega), hb, show sqd c d = d by unfold sqd; rw [if_neg h1, if_neg h2], g (i + 1) d hd hA.tail]
  simp only [List.length_cons]; congr 1; omega
theorem BalS.app {A B : List Int} (h : BalS t A) (g : BalS t B) : BalS t (A ++ B) := fun i d hd hA => by
  rw [h i d hd hA.left, g _ d hd hA.right]
  simp only [List.length_append]; congr 1; omega
theorem BalS.opt {L : List Int} (g : BalS t L) : BalS t (91 :: (L ++ [93])) := fun i d hd hA => by
  have hb := hA.head
  have hA2 := hA.tail
  have hcl : bt t ((i + 1 + L.length : Nat) : Int) = 93 := hA2.right.head
  rw [sqK_step (bt_lt (by rw [hb]; decide)) (by omega), hb, show sqd 91 d = d + 1 from rfl, g (i + 1) (d + 1) (by omega) hA2.left, sqK_step (bt_lt (by rw [hcl]; decide)) (by omega), hcl, show sqd 93 (d + 1) = d + 1 - 1 from rfl]
  simp only [List.length_cons, List.length_append, List.length_nil]
  rw [show d + 1 - 1 = d by omega]; congr 1; omega
theorem pl_sq {c : Int} (h : Pl c) : c ≠ 91 ∧ c ≠ 93 := by
  refine ⟨fun e => ?_, fun e => ?_⟩
  · subst e; exact absurd h.2.1 (by decide)
  · subst e; exact absurd h.2.2.1 (by decide)
theorem balS_all : (∀ z, (fun (e : (TE TF)) => ∀ (x : Nat), e.ok s x → BalS t e.rd) z) ∧ (∀ z, (fun (fs : TFs) => ∀ (l : List Nat), (TFs.ok s fs) l → BalS t (TFs.rd fs)) z) ∧ (∀ z, (fun (f : TF) => ∀ (p : Nat), f.ok s p → BalS t f.rd) z) ∧ (∀ z, (fun (es : TEs) => ∀ (x : Nat), (TEs.ok s es) x → BalS t (TEs.rt es)) z) := by
  refine tree_ind ?_ ?_ ?_ ?_ ?_ ?_ ?_ ?_
  · intro d fs ihfs x h
    simp only [TE.ok_mk] at h
    obtain ⟨hd, a, _, h2⟩ := h
    simp only [TE.rd_mk]
    have hp := pl_dig hd
    exact BalS.plain hp.1 (pl_sq hp).1 (pl_sq hp).2 (ihfs _ h2)
  · intro l h
    simp only [TFs.rd_nil, TFs.rd_cons]; exact BalS.nil
  · intro f fs ihf ihfs l h
    simp only [TFs.ok_nil, TFs.ok_cons] at h
    obtain ⟨p, q, _, h1, h2⟩ := h
    simp only [TFs.rd_nil, TFs.rd_cons]
    exact (ihf p h1).app (ihfs q h2)
  · intro c p h
    simp only [TF.ok_lt, TF.ok_nm, TF.ok_br] at h
    obtain ⟨h1, h2⟩ := h
    simp only [TF.rd_lt, TF.rd_nm, TF.rd_br]
    have hp := pl_let (c := c) (by rw [h2]; exact h1)
    exact BalS.plain hp.1 (pl_sq hp).1 (pl_sq hp).2 BalS.nil
  · intro c e ihe p h
    simp only [TF.ok_lt, TF.ok_nm, TF.ok_br] at h
    obtain ⟨h1, h2, h3⟩ := h
    simp only [TF.rd_lt, TF.rd_nm, TF.rd_br]
    have hp := pl_nam (c := c) (by rw [h2]; exact h1)
    exact BalS.plain hp.1 (pl_sq hp).1 (pl_sq hp).2 (BalS.plain (by decide) (by decide) (by decide) ((ihe _ h3).app (BalS.plain (by decide) (by decide) (by decide) BalS.nil)))
  · intro o es _ ihb p h
    simp only [TF.ok_lt, TF.ok_nm, TF.ok_br] at h
    obtain ⟨h1, h2, _, h3⟩ := h
    have ho : cO o = true := by rw [h2]; exact h1
    have hov := cO_vals ho
    simp only [TF.rd_lt, TF.rd_nm, TF.rd_br]
    have hes : BalS t (TEs.rd es) := by
      cases es with
      | nil => simp only [TEs.rd_nil, TEs.rd_cons]; exact BalS.nil
      | cons e es =>
        simp only [TEs.ok_nil, TEs.ok_cons] at h3
        simp only [TEs.rd_nil, TEs.rd_cons]
        exact ((ihb _ _ rfl).1 _ h3.1).app ((ihb _ _ rfl).2 _ h3.2)
    rcases hov with h | h | h | h
    · rw [h]; exact BalS.plain (by decide) (by decide) (by decide) (hes.app (BalS.plain (by decide) (by decide) (by decide) BalS.nil))
    · rw [h]; exact BalS.opt hes
    · rw [h]; exact BalS.plain (by decide) (by decide) (by decide) (hes.app (BalS.plain (by decide) (by decide) (by decide) BalS.nil))
    · rw [h]; exact BalS.plain (by decide) (by decide) (by decide) (hes.app (BalS.plain (by decide) (by decide) (by decide) BalS.nil))
  · intro x h
    simp only [TEs.rt_nil, TEs.rt_cons]; exact BalS.nil
  · intro e es ihe ihes x h
    simp only [TEs.ok_nil, TEs.ok_cons] at h
    simp only [TEs.rt_nil, TEs.rt_cons]
    exact BalS.plain (by decide) (by decide) (by decide) ((ihe _ h.1).app (ihes _ h.2))
theorem TE.balS : ∀ (e : (TE TF)) (x : Nat), e.ok s x → BalS t e.rd := balS_all.1
theorem TFs.balS : ∀ (fs : TFs) (l : List Nat), (TFs.ok s fs) l → BalS t (TFs.rd fs) := balS_all.2.1
theorem TF.balS : ∀ (f : TF) (p : Nat), f.ok s p → BalS t f.rd := balS_all.2.2.1
theorem TEs.balS : ∀ (es : TEs) (x : Nat), (TEs.ok s es) x → BalS t (TEs.rt es) := balS_all.2.2.2
theorem TEs.balSr (es : TEs) (x : Nat) (h : (TEs.ok s es) x) : BalS t (TEs.rd es) := by
  cases es with
  | nil => simp only [TEs.rd_nil, TEs.rd_cons]; exact BalS.nil
  | cons e es =>
    simp only [TEs.ok_nil, TEs.ok_cons] at h
    simp only [TEs.rd_nil, TEs.rd_cons]
    exact (TE.balS e _ h.1).app (TEs.balS es _ h.2)
/-- an option ends where its own brackets say -/
theorem sq_opt {es : TEs} {i x : Nat} (h : (TEs.ok s es) x) (hA : At t i (91 :: ((TEs.rd es) ++ [93]))) : sq t i = i + 2 + (TEs.rd es).length := by
  have hcl : bt t ((i + 1 + (TEs.rd es).length : Nat) : Int) = 93 := hA.tail.right.head
  unfold sq
  rw [TEs.balSr es x h (i + 1) 1 (by omega) hA.tail.left, sqK_step (bt_lt (by rw [hcl]; decide)) (by omega), hcl, show sqd 93 1 = 0 from rfl, sqK_zero (by omega)]
  omega
/-- an option stands here -/
def Opt (s t : ByteArray) (i : Nat) : Prop := ∃ (es : TEs) (x : Nat), (TEs.ok s es) x ∧ (TEs.len es) ≤ 1 ∧ At t i (91 :: ((TEs.rd es) ++ [93]))
theorem opt_all : (∀ z, (fun (e : (TE TF)) => ∀ (x a i : Nat), e.ok s x → At t a e.rd → a ≤ i → i < a + e.rd.length → bt t i = 91 → Opt s t i) z) ∧ (∀ z, (fun (fs : TFs) => ∀ (l : List Nat) (a i : Nat), (TFs.ok s fs) l → At t a (TFs.rd fs) → a ≤ i → i < a + (TFs.rd fs).length → bt t i = 91 → Opt s t i) z) ∧ (∀ z, (fun (f : TF) => ∀ (p a i : Nat), f.ok s p → At t a f.rd → a ≤ i → i < a + f.rd.length → bt t i = 91 → Opt s t i) z) ∧ (∀ z, (fun (es : TEs) => ∀ (x a i : Nat), (TEs.ok s es) x → At t a (TEs.rt es) → a ≤ i → i < a + (TEs.rt es).length → bt t i = 91 → Opt s t i) z) := by
  refine tree_ind ?_ ?_ ?_ ?_ ?_ ?_ ?_ ?_
  · intro d fs ihfs x a i h hA h1 h2 hb
    simp only [TE.ok_mk] at h
    obtain ⟨hd, y, _, h3⟩ := h
    simp only [TE.rd_mk, List.length_cons] at hA h2
    by_cases e : i = a
    · subst e; have := hA.head; omega
    · exact ihfs _ (a + 1) i h3 hA.tail (by omega) (by omega) hb
  · intro l a i h hA h1 h2 hb
    simp [TFs.rd_nil, TFs.rd_cons] at h2; omega
  · intro f fs ihf ihfs l a i h hA h1 h2 hb
    simp only [TFs.ok_nil, TFs.ok_cons] at h
    obtain ⟨p, q, _, h3, h4⟩ := h
    simp only [TFs.rd_nil, TFs.rd_cons, List.length_append] at hA h2
    by_cases e : i < a + f.rd.length
    · exact ihf p a i h3 hA.left h1 e hb
    · exact ihfs q (a + f.rd.length) i h4 hA.right (by omega) (by omega) hb
  · intro c p a i h hA h1 h2 hb
    simp only [TF.ok_lt, TF.ok_nm, TF.ok_br] at h
    simp only [TF.rd_lt, TF.rd_nm, TF.rd_br, List.length_cons, List.length_nil] at hA h2
    have e : i = a := by omega
    subst e
    have hw : 97 ≤ bt s p ∧ bt s p ≤ 122 := by simpa [cL] using h.1
    have := hA.head
    omega
  · intro c e ihe p a i h hA h1 h2 hb
    simp only [TF.ok_lt, TF.ok_nm, TF.ok_br] at h
    obtain ⟨g1, g2, g3⟩ := h
    simp only [TF.rd_lt, TF.rd_nm, TF.rd_br, List.length_cons, List.length_append, List.length_nil] at hA h2
    have hw : 65 ≤ bt s p ∧ bt s p ≤ 90 := by simpa [cN] using g1
    have h41 : bt t ((a + 1 + 1 + e.rd.length : Nat) : Int) = 41 := hA.tail.tail.right.head
    have h40 : bt t ((a + 1 : Nat) : Int) = 40 := hA.tail.head
    by_cases e0 : i = a
    · subst e0; have := hA.head; omega
    by_cases e1 : i = a + 1
    · subst e1; omega
    by_cases e2 : i = a + 1 + 1 + e.rd.length
    · subst e2; omega
    exact ihe _ (a + 1 + 1) i g3 hA.tail.tail.left (by omega) (by omega) hb
  · intro o es _ ihb p a i h hA h1 h2 hb
    simp only [TF.ok_lt, TF.ok_nm, TF.ok_br] at h
    obtain ⟨g1, g2, g5, g3⟩ := h
    simp only [TF.rd_lt, TF.rd_nm, TF.rd_br, List.length_cons, List.length_append, List.length_nil] at hA h2
    have hcl : bt t ((a + 1 + (TEs.rd es).length : Nat) : Int) = cC o := hA.tail.right.head
    have hcv := cC_vals o
    by_cases e0 : i = a
    · subst e0
      have ho : o = 91 := by have := hA.head; omega
      subst ho
      exact ⟨es, p + 1, g3, g5.2.1 rfl, hA⟩
    by_cases e2 : i = a + 1 + (TEs.rd es).length
    · subst e2; omega
    have hA2 := hA.tail.left
    have h5 : a + 1 ≤ i := by omega
    have h6 : i < a + 1 + (TEs.rd es).length := by omega
    cases es with
    | nil => simp [TEs.rd_nil, TEs.rd_cons] at h6; omega
    | cons e es =>
      simp only [TEs.ok_nil, TEs.ok_cons] at g3
      simp only [TEs.rd_nil, TEs.rd_cons, List.length_append] at hA2 h6
      by_cases e4 : i < a + 1 + e.rd.length
      · exact (ihb _ _ rfl).1 _ (a + 1) i g3.1 hA2.left h5 e4 hb
      · exact (ihb _ _ rfl).2 _ (a + 1 + e.rd.length) i g3.2 hA2.right (by omega) (by omega) hb
  · intro x a i h hA h1 h2 hb
    simp [TEs.rt_nil, TEs.rt_cons] at h2; omega
  · intro e es ihe ihes x a i h hA h1 h2 hb
    simp only [TEs.ok_nil, TEs.ok_cons] at h
    simp only [TEs.rt_nil, TEs.rt_cons, List.length_cons, List.length_append] at hA h2
    by_cases e0 : i = a
    · subst e0; have := hA.head; omega
    by_cases e4 : i < a + 1 + e.rd.length
    · exact ihe _ (a + 1) i h.1 hA.tail.left (by omega) e4 hb
    · exact ihes _ (a + 1 + e.rd.length) i h.2 hA.tail.right (by omega) (by omega) hb
theorem TE.opt : ∀ (e : (TE TF)) (x a i : Nat), e.ok s x → At t a e.rd → a ≤ i → i < a + e.rd.length → bt t i = 91 → Opt s t i := opt_all.1
theorem TFs.opt : ∀ (fs : TFs) (l : List Nat) (a i : Nat), (TFs.ok s fs) l → At t a (TFs.rd fs) → a ≤ i → i < a + (TFs.rd fs).length → bt t i = 91 → Opt s t i := opt_all.2.1
theorem TF.opt : ∀ (f : TF) (p a i : Nat), f.ok s p → At t a f.rd → a ≤ i → i < a + f.rd.length → bt t i = 91 → Opt s t i := opt_all.2.2.1
theorem TEs.opt : ∀ (es : TEs) (x a i : Nat), (TEs.ok s es) x → At t a (TEs.rt es) → a ≤ i → i < a + (TEs.rt es).length → bt t i = 91 → Opt s t i := opt_all.2.2.2
/-- an option that is not empty, emptied, is a step -/
theorem opt_step {f : TF} (h : TreeOf s t f) {i : Nat} (hi : i < t.size) (hb : bt t i = 91) (hne : bt t (i + 1 : Nat) ≠ 93) :
    ∃ f' ∈ f.st, f'.rd = seg t 0 i ++ (91 :: 93 :: seg t (sq t i) t.size) := by
  obtain ⟨es, x, q1, q2, q3⟩ := TF.opt f 0 0 i h.ok h.at_ (Nat.zero_le _) (by have := h.sz; omega) hb
  have hcl : bt t ((i + 1 + (TEs.rd es).length : Nat) : Int) = 93 := q3.tail.right.head
  have hz : i + (91 :: ((TEs.rd es) ++ [93])).length ≤ t.size := by
    have := bt_lt (s := t) (p := i + 1 + (TEs.rd es).length) (by rw [hcl]; decide)
    simp; omega
  have hlen : (TEs.len es) = 1 := by
    cases es with
    | nil => simp only [TEs.rd_nil, TEs.rd_cons, List.length_nil, Nat.add_zero] at hcl; exact absurd hcl hne
    | cons e es => simp only [TEs.len] at q2 ⊢; omega
  have hel : (elS t i).length = 1 := by rw [elS_brk (by decide) (by decide) q1 q3, sp_len, hlen]
  have hst : stS t i = [woS t i 0] := by
    unfold stS
    rw [if_neg (by rw [hb]; decide), if_pos ⟨hb, hel⟩]
  have hmem : woS t i 0 ∈ rgS t 0 t.size := by
    unfold rgS
    rw [List.mem_flatMap]
    exact ⟨i, by rw [List.mem_range'_1]; omega, by rw [hst]; simp⟩
  rw [stS_all h, List.mem_map] at hmem
  obtain ⟨f', g1, g2⟩ := hmem
  refine ⟨f', g1, ?_⟩
  rw [g2, woS_brk (by decide) (by decide) q1 q3 hz, sq_opt q1 q3]
  have hdel : (TEs.rd (TEs.del es 0)) = [] := by
    cases es with
    | nil => simp [TEs.del, TEs.rd_nil, TEs.rd_cons]
    | cons e es =>
      simp only [TEs.len] at hlen
      cases es with
      | nil => simp [TEs.del, TEs.rd_nil, TEs.rd_cons]
      | cons e2 es => simp [TEs.len] at hlen
  rw [hdel]
  unfold pcS
  simp
  congr 1; omega
end
end Go.Proofs.Ytnfaiaoipeholaa
